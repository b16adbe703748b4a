import PyProof.Rows.All
import KE.KIntText
import KE.KTryMore
import KE.KDictLaws
import KE.KItem
import Open.Pieces
import KE.RegKTryMore
import OpenK.KOwn
import Lean
import PyProof.EqAt
import PyProof.EqKinds
import PyProof.TupleCall
import PySem.Challenge.RW_inkroot_k49_whole_strikes_commute
set_option Elab.async false
set_option linter.all false
set_option maxRecDepth 100000
set_option maxHeartbeats 4000000
abbrev iS:=List (List (List Int))
abbrev cO:=List (List Int)
abbrev iT:=List (List Nat)
abbrev iN:=List (Int × Nat)
abbrev Ex:List PySem.Str:=["self"]
abbrev Yq:List PySem.Str:=["self","sheet"]
abbrev zl2:List PySem.Str:=["self","hand","text"]
abbrev XN:List PySem.Str:=["_law_src_here","_law_base"]
abbrev zl4:List PySem.Str:=["row","start","stop"]
abbrev zl5:List PySem.Str:=["rows","sheet"]
abbrev zl6:List PySem.Str:=["_law_rows","_law_sheet"]
abbrev zl7:List PySem.Str:=["_law_rows","_law_entry"]
abbrev zl8:List PySem.Str:=["_law_rows","_law_sheet","_law_place","_law_new"]
abbrev zl9:List PySem.Str:=["_law_rows","_law_sheet","_law_start","_law_stop"]
abbrev U9:List PySem.Str:=["_law_src_here","_law_world_here"]
abbrev Va:List PySem.Str:=["_law_src_here","_law_world_here","_law_house"]
abbrev Yr:List PySem.Str:=["_law_src_here","_law_world_here","_law_house","_law_other"]
abbrev Ys:List PySem.Str:=["_law_world_here","_law_house","_law_other","_law_struck"]
abbrev cz:=@List.length_map.{0,0}
abbrev cP:=@List.length_append.{0}
abbrev gy:=@List.map_append.{0,0}
abbrev fH:=@Nat.le_refl
abbrev mE:=@List.mem_cons_of_mem.{0}
abbrev qC:=@PySem.F.plainAttrs_list
abbrev qM:=@List.getElem?_eq_getElem.{0}
abbrev pA:=@List.mem_of_getElem?.{0}
abbrev lR:=@List.length_cons.{0}
abbrev qD:=@List.length_singleton.{0}
abbrev gf:=@Bool.false_ne_true
abbrev fP:=@List.getElem?_map.{0,0}
abbrev jX:=@PySem.F.slot_list_append
abbrev jY:=@PySem.F.type_list_append
abbrev gB:=@List.length_take.{0}
abbrev gP:=@List.size_toArray.{0}
abbrev gQ:=@List.take_length.{0}
abbrev jR:=@List.getLast?_concat.{0}
abbrev gK:=@List.append_nil.{0}
abbrev je:=@List.flatMap_cons.{0,0}
abbrev kX:=@List.concat_eq_append.{0}
abbrev nB:=@List.eq_nil_or_concat.{0}
abbrev gM:=@Nat.le_of_lt
abbrev oM:=@PyProof.Rows.boot_list
abbrev gR:=@Nat.le_trans
abbrev oN:=@List.mem_append_right.{0}
abbrev kq:=@List.foldl_cons.{0,0}
abbrev jv:=@List.map_cons.{0,0}
abbrev nC:=@List.append_assoc.{0}
abbrev qE:=@List.mem_append_left.{0}
abbrev jS:=@Nat.ne_of_lt
abbrev yu:=@PyProof.Rows.boot_isinstance
abbrev uc:=@List.take_of_length_le.{0}
abbrev vg:=@List.drop_of_length_le.{0}
abbrev qN:=@Nat.lt_of_lt_of_le
abbrev wG:=@List.length_replicate.{0}
abbrev qO:=@List.length_drop.{0}
abbrev qP:=@Option.some.inj.{0}
abbrev qQ:=@List.length_nil.{0}
abbrev wH:=@PySem.W.mg_none_of
noncomputable section
namespace PySem.W.Fast
local macro_rules |`(universe $i*)=>do return Lean.mkNullNode (←i.mapM fun x=>`(theorem $(Lean.mkIdent (.mkSimple s!"tw{((x.getId.toString.drop 1).foldl (fun n c=>n*62+(c.toNat-(if c≤'9' then 48 else if c≤'Z' then 55 else 61))) 0)}")):ident :True:=⟨⟩))
universe aFpZ5tHENQvk aEJ0rffeSx7N aLHqDFC4vEpr a8zaf5B1C25v a1t1kzGc9HBj aByUg4DIFXgv a5GbwV4dETkg a218ZrALlIvR aCu8ZyCkgUv1 aH45ur75q3Wz aHH0SrPyZZbz a3WnbQ4803o8 aDaFN9lrQOtV a66h9TENf5fa a9tzYS600KdA aFW9yIeD0V1 aC03ApYsxUjj aKousbqi9YHJ a7JENxTIP8Tn aFHn5CZzHno5 a68koE3l8ZVV aHgtQsAGjNm4 a359JYqpmaDa awcdu7LzQfA a5XzJg9FBg4J aCh4OVlMKCRE aArqudhm08oJ aDHhLQ5aHNii a33znsPRcxp5 a7rBaVDa2JoN aH1EdGn1IrKg a4ABIxL9jSh0 aKkXH8eoAAYV aGYBu990mVZl aGdMMBuSGMe8 a1Dh4I2sqfbI a5eGEukrX33L a7b5awmakt0e aAZPD0k1XiFn aKnpJfQcD0m4 aJXMYrzqZPUA aJBRPcAKIdB8 aABcasUW8EWO aGCKo5Q222th a3uKcppKiwsu a7UA3DMOThfv aJKeF3zSki1Z aBCpFIT2BW2C a3IlLQ4sxW2 a4Gm79qgiQYY aLEVj9ff30GU aEFMntA0uhSy aJbxNw33oC3d aBNQxqFXmhim a2RnJVroQlKw aCcL9gxMrMA1 aJx4sYmDVF7L aCqN9qaF1uyj a5xDGmxfcta0 aAek3yNjw22v aCFAVi2tKop8 a2uIMyZiE8jr aGaiM5mgXCkD aGXV51WHbMGn a48Rhvmne7Qy a7rErderkOTs aDYosBhDEfpP aHUmZoNWDrlv a61kQxubTAlU aC4uGX7YLoUK a9tywzl2nCyM aGYqHDA8t0D2 aAps27yVYIMA aDtc07awGg2D a6MYlFn0UiOO a2BmydebKKgk aJ7AfZkYqnFP aGLE9KvFm9RH aGUC4c9pu9f5 alQmv8P1Gsv a9x6BsjwtAwS a6KO0CdaPyLS aKs7dj9E0GXA a4kofikAsPmx aCulcrU8qGyg aB1Szn20rILO aGGycttthiro aIRY8tw8BwmU a2CfbK3lYxXO aAF4HBHpcxi5 a8IiIfDMBE2J a9hKnmSSNFr8 a40cORiQM9Jl a8Azih1czu5I aGoRLqsuqgMo aBa9CzFwSgaI aAZKMJfXL2kI a2hJLbCWoKnM aKIU6baUNAYB a4Vt7Y4j5z4N aDhTBQkxHe0Z aG6hAAhTg3hK aEdTEhg6W8Jh a1URnKOrtWD7 a6Fa3eG4aF58 a9hgMJ2zikNh a9vouLiLLvbG aKPCQ2eI2JNa aI6gejQ6DhGB a9igNBDcdqRz aIWUzhDOmKsi a52DIYYcv0g4 a5PrG3YtVWtm acmMY2fcGbC a32mCqqiXAYm a6B2OWfqPCbv aALG14nFwUL6 aCnJXeS0jWwQ aG500ekOAN7K aBEbycKm3rBA aAXcgCiG6MwX aDN5gqjAkigw aHSFdVap2lUS aE8pnhDsoH6g a2bcf2MFwhJl aEc5VYotVx3j a2NVFquhZkgK aKbllHRWLV9P a4Vnd2mnslzl aIzK0YsCdIZi aF6kqo5reykf aDNilSWmeg27 aHh1O3OZkhfm aLON2jdgSRio a9RHdtnqLjs5 a8d6WZeRXZZM aK13rlGWoZ63 aJWiIJmUeYqI aAyjRxiHZwVO a46AMGz89c5J a1FxC2t6cJN9 aKgYs3fQ4Yli aIh8QLUMEe9E aLX3W6oYWQTj a6L9dMHreDph aBtT5NcIg0oB aEkjkXuDoC37 aAmQQaKwp6hG aLeQ7Zx79mhS aHZO8CUwnzht aHLo9WkuO5CD aGncYJNewWRC aEuBU2wkoWau aJvR3f7slEDe aGDak0FrtbNE aIaNhF0dDjYJ aDPlZxwGmh30 aDgqzm3vKAou ayHs6BaiNs2 a6m0Hy77zsn4 aIa5vbxLRqt4 aEva8FlOBDoO aGTbqVdHwdGr aDnT1EG2WXgR a5Kbvc8pA1Lk aX1M9QHEUIn a4gyqJnlKAAQ aHUWNBM3Amev aFxhuzhPeeWf aB4xFd10yFjZ aCZ1Md51OiKn a9xy5xDXb7Xk aBeWnd0fGlOe a5eQsRGcHCOl a6j6KVzIXVOK aHWy8AoBzSgi aFB7MU8NXCcC a4YmrUXKT5N3 aBxy1mqRiqoj aHPua6i2FM20 a8ZxyiR6CaBZ a8nvlMIkhYAg aGq4e8f0cqiN a3PoolQm2gKB aG2jO6R1byj1 a5c0KILzSfxf a76hm12Geqh7 a28J4Jb5SkTL a8XqkFwOIk9j aHC3k8c7LkBD a7gzbYOQ0ybY aDZd8U25ytd8 a8huFSWipRBV aBoGTVkxkLYC aIEhaqsEJ3qB aEXVcuCso4t5 aBkpGGOB0AhO a6Ryy9DmbV4g a5t63WiL1J6u aC3u2tUntlxM a1uV1jKcSWIn a6l6J5UXwq4v a6mwoOMuHfFP a8PFVxNzIXCD aL7AIDSM8pH5 aLQbboKeQ4Xj aLSoZjHi92It a1jJbNjPHpAm a5T64JbsQeiO aJVsEJl1bIL6 a5XJp2b1AJOO a9ha4M9VKGUe aMGQUoZN33w aJ2mVVHqXGPV a1tqyTVTFmU6 a80KdYZwkb6u a8EUCt3dkPUC aJ7JtY0GtayP aHuWacuKXtlp a184PL6hCvwC aE2nBR4Z4YkB aLDwvG1PHcS6 aLJ28pw96r0u aJvPQ1gmZLi5 a117QXilFCfg a4SY9UnTT0F9 a4wO9hJehwZj a9IHVQPM4VIP aAzXJzJngQvA a72Ek2b0d3uO aBWMqwUVryF0 aDAe7mmOZeiz amuOuXoYBD1 aLYt3qL5AQ7O aC6jXUYPgBHS aJMk5OA9hBnh aIsUYtUoZhmy aFEVRKoydPlz aCbqmwumFdNB aNcLlEpnuZ1 aElmNgMASXdg a5BNecVmvNVu aJrMomdpiZG1 a47WlV7hbJwm aLFbH0V3PJ3m aAxUdWOY5yDi a9HD6weRI9Ga a7qRrP0Reinl aJLBYwtpjB9I aIHILhGrgdAW aD3yKkSAY1Nh aIgCv4kJeWyV aEqjYNU84rUz aCtUYMiez6zs a80PC40Vkf5X a23iN620zM8K aJkeiMAIV30K aHUggus6VbZP aETgnY0zYuFS a7bDuO2GMCFh aJkNYUm7QSgj aD420HzY0v0C a52u0aMXgmIL aGZW0XtQvhlT a3Ypdf2si7h1 aKdJnKxkYyz8 aDKgJ44orqSL aADfAtTGZs7g aAnDXK3VbCTK aGlQyp40OCAC amIWMhd0j1Z aCY7Ef51qv77 aE5KgrQhq5fJ a1kn2P1kNnqg a55DxXqRao0e aF2418uvrx8 aFYvBWFw3HiL aV1zKTeWT9C a5EYTSuySg3l a9hzfm7WcxFS aBi25NkrHmo9 a7atRefPyS3q aLeGr4NIsgOw a8YTSjvffHRm a8QwobSvegUX aIO2YhyBx1Db aKAgVkKzIO1b alCUjGLUzWL a1lxxmIEAiPd aBiZgaaz850m aLZ5MretPjVo aSOsYGnZjzo a6x7XeizXsD9 a7f8R8tedwrr aKDUTVrb5qdF aBOtxH7dhg3J aL0G0zlkNojb aDs2y6NGWdaV a6K7S2LBdJ0K a39f4I28KWjk a3JkyzqllgwD aCp28CCoWW34 aGT2aSnWQb7W aScIePg6fhq a63NlzefEc2q aF9c1HOLiMCr aFrIL4zaNeyo a4qzjcIeka8A aEvbzb8Bl9ig aIvj50mSC2iP a3CJJtjVIT6L aGIHxvxBKFAH a1GuUXPpSnzY aG2rbXkrnN3U aCYVIdlTPJ4V a6nOBq6c1jqH a7hElLQk6JcV aBVs92KfTvi9 a5ooRNYAUEi7 aAVq8gRyi5jU aDqYZQ0BpZRh aD1lvA3HkiP1 a586orrlHyoz aGoIen8igNyn aH6ieolch4Pn aAW8W0LaTLmG aFi6RaUQKXPe aHJkIeUwOIDp a3oUBqOXRipv a89he4gAy0Y aBtGW75t1VAP a2fmofSBmDui aAvWDW8jSTNg a3clWm1Idugg aJbBzxhYnqZz a3Q10PLgbfUp a8By7l6qhoSb a2nzxO5uWf3M aFAK98UO2ZWS aLUKSc8swyfG aEXsuemLMvG5 aKoTBsdZ4zsy aKBDTVglgjRW a6GitlA5EYcf aD1NIm6CXplq aIRbVpW889y6 aHgcxvkWesNU a8tB9egc0hfi aDdtdhCZSnx1 aLifZJ8H9Or5 aJLEDImfOAvn a6FJErE0D2el a2i6fCIwJxVv aJFqHY2aTfQO a4viWXRFINzD aEPh8zQcqgqF aKj0OuxSYpeB a1XVxY1ChJyA a1fPK032bhx8 aK1X5ZjRQ4PJ a2x0uP0xASap aKDsgkmIWo6e aJlePN02wz5V a5jnzBcI7fKB aBxaCc2iSq5s aGHfp50Pwbt8 a7hlQVcZ79ZQ aCqLixcF8onx anlXUfhiFQL aLCbgYLlhUh0 aAbpA2ZMG0zq a9JkUVcITBFU a3j3mmeVTR6G a8F85FTvwNOh aDAnmCQlwUCw aHWAQOYQiPKa aJNo01796Q7W aI1k1M6LsLkU aETLdr8CNrks a7bd1pKq2KY1 a39MYbQZiuix aIekmcQBeJnO a7ioiuVFxG6 a2SCaWDiXUBP aJXgfOrhEoeC a7MUFQ4ovxS2 aGekmyfnGERn a5M6aYk7DSAT aA6NoLEeFz7F aCdEAgH0l900 aBFzkAZdpAJ3 a4sG6EzVmJTm aEjxExqXTD8H a8uonQXwNlgy a86PSVUeB5SD a8awTbxvkW9o a6MWxyRULGlv aAvewYxsC7Dn a9kPRiiFg8uo a82GdlNhp8PR aLiAOYrAHazy aBw6Dizhcrx0 a8BhT5QYOIAE aBUthSUpPmRk aBKFanC5kHA0 aIdYyB9w4ctg a1946VPyt0UB aJlOmvhQtKts aRaUkHu68Ur a4nU7q30OR8F aBhdkdykuVvD a8WeJAi9Aeux aEcM5PZa8DPs a8soky4s2dmQ aHgPUyD1ezaM a1rkaYystNXC aJrq0xhCPG0d aHq2mOENM3hy a5XizDGV0eG5 aHb5eNk6f6JG aLpKxgoDYM1x aLBGHaIjO5Xb a7ZVMkIbBCWm a93VC4wG4ZQA aEKb56J9AK7P aHc8gKlRdZr7 aFgem5m6nbuP a2iPi5YkeQtR aA8GZ0gEPqyg aJvVTnS8cvWC a1iGa8nq3zmW a87GjkIh4quH a466TGpwqdRs aI1SR2JNBFue a5ekRdlSZbts aJoDfXZeyijC aKomzJfiHjla aECLlaUPbNLj a72oMRTLSVfL a4FQ0dUuEF7z ad0CgKxZuB1 a4ungVNN2iUH a2xx79QAfSYC a5afo0Drfhvc aFFl6d1QcD0f a81BBylL2OIe a4xXqtgcBuGs aJmDEmVwLFTm aKTejozfCrWC aKMJb77rixMb a5TGQZezyMD a7G5igWSVGqJ aDkGdTOGIV7o aEzawtHdPcjV a8BGgDPbRwBj aBOXVfZQfhLQ apDBtwK5q4y a2jM5nXTKRah aAjcDdZjDV0M a1lRBosySUlu a7XOuL0qPtc2 aEDP16csqrjA a4TQZbGbfvyL a97hYhhzwvg4 aKu7cZ94xZWK aHtzUELYiPbx aGb4saQjLX4N aAvTHev881xp a2CC6gQsht3i a4CL07NtZVV2 aJkka0rObTML a7vrXWgTzPnY a8omIbAJv0bR aKoNaqHoopsv aFI5zdKYCFfy aAwmICvcm8w6 aHtNfYFSs30P aFLEW6G7uAXO aHgDioyln7qa a9OXGshYq1HU a79UfdzaOLLe aHH19Dm142Pd awP6PrRkIxv aGHXnLmRlWG5 agHsMm8huAg aCqZzaVM5gny aEVnkD61aqj5 a2R2PquZGlzz a1I2rq4TKmZF a7eoILuaCAmz a9rn5Wf869h4 aDr6YnOOA1n aF4hor37DG6i a9Pp8JQ549gF a2QxzTyp3Mjp aDSLytAf1D3f aFMSBRvDsW2n a8bDHrRESM07 a2ohQ9qk5CMC a8lAX6blwuTw a5aeDgxqt1Fk a4PB23kH6XX4 a1C1lo5SiJWA a410axQQcjGy aJVxFAZSuKF1 aKcNbTjFomQv a7QY29oq7Aks aLNK6seopvCK aBssXB3v1ygG aJqCZJMtxaEr a4whOR2hh6ef aCeNc8OlS6Dw aCscIg8uDBxh aLusG9l2eMSS a50cEjWvkjcR aHFrUoTvSU2e a4XHP7e8GW15 aESCaNQK9Pop aITTTCAC2OsB aIncsrPxuh2s aGUNioHWo0u3 aKbsRSPZh822 aIiWCduT9q0W aIpl4H97Udb0 a5X69zgJpLTs aKBlWTLDbuUH aHap0ydPtMlK aEqevUNkv6yZ aAb9sT5QQmy3 a4sb5UBjM5EC a1UedCsl7svg aHmtf66UEq0 aAXlFU3MVp6H a3IE71Mr11SJ a9XFUEwAP6PO aBSj5jEftXzJ a47kXFUVFDT aBOVvCZ1GHXs a3cyEEzsh4qe adxkr1vJ2ff aHq32aHHQvey aLpz6JJIpth1 aF62UcnFlaaL a1s2kcIyrHUk a5vGlKSz3BIG aCBenveWkOkV a9qZ1mESlN2s a7uMIhWF0Yv8 aGlQnxqa3N4R a4PBCePiUClr aEuxbMABDNKw a5J72lqY8LUy aCL5ApJ26TJN aNuqPLL9EcK a8NXnvew9sQk a5h02JypVpFQ a3XFy1k8FXvt aLp4bs4WUIEN aDYRda7zZ5OW aOI82dFuGUu aLpYrHbG5GIH aAPDU2jZ1zsP aKCgq8MKkw0g a8fOHZtfOSmP aDWj4D4LQguA a38X2aagMYVP aAU64qBgxHWo aKZSELJAAsVx aJndaohlsYnD aH7L4mABi9p9 aAt5M6Cjl4xI a3yhQRqcRJ2N aBLmhMRQdKbZ aEZ5PLesNW3 a9VcPjJhHtas aq4On93anFK aJxVenLVyXzO a6VsSOam1PZv a8cVOYViLm9n aCogEC0UfZUZ aLuk2fszcP4U aIqxm0X9xqdg a3k3Pd8WU4hP aDROKukgGWJI aJhJM6wuUXih aLCsl2wOiZ7E a2kEZAEy5p9w aFvtezerAcUp a6SNZHesxmxV a9jetPb4WzPX a5xt9V8EmuRy aDTAqc39GHK2 aLWlsAxbNUOX aFyTpNGseuyF aDwV7v364k1N aD8sEbT4l1KZ aBdrI70VyPJD aAFJ8rxlCKx9 aGNdGllKCamx aFaaVfbXPwgl a5rv4dPustBo aHjIzVIJa17e a3qSobdoImNp a347RidhXGMF a5quxiQLV8Z7 aCAkRftreKWZ aH6L1OjgXGqV aI8qNNQCPQkR aA7eyyEBqMdQ a8imGIMZovlY a3GumvEwy0Is aHtTEI8h2ib2 a2MMZiLAJEBE aGgdo319SlsT a4UPba8O86kf a9aA7e9iULYD aGOjgDnzXuqw a6kbjxdfcnlj awoV1kheIKP a23djRkk7yRs aGCfLjg9GY45 a9Y8FdU4F33t aI4KQRP8mrNJ a5LQJ5aQq9eh aD67I1SpGKRU a3ucMwZ4sSzq a3dxFLsRrLa8 aCkfspNqsabf aDQAQLMaLf8n a3d9Ya8FibQL a7pUG03Py0CJ aHOW0Ln9avo1 a5vb3zUvmeth a7SXUjPAzqqH aFaKGw494QZk a99Pfytk5RpH a3ierxN0gNFV aCgbc9kDAhW7 a7Sy2HoJ5yjl aGh6JAUaskIw aA9HRunWkowh aHLJoh1t3JdW aIR00fwykwAg a2zKWf3WE9qu aDA7vv3PJUyl aLiRa4K8DEq9 aDVqfaabhOvD a1ugN2dMc51D a9GR5K0x0IK5 axOdLoHcUJX a779JX4sumRA a3QHcVDmparM aEpR870Dl8EF aIgrzyajISxs aK9JToyc5Cqn aACtHhHPtcYx a941phF8X8zS aEfBt1Nn288Q a4PAigu5sbJP aChxM2pRHVUH aAF3OTjJb1xE a8cqa4GoPpgD aHducwom73G0 aInOcvLL5ZMl aAu1ZWwObnnL a6coQE5woP3G aEXZTtZCsS7Q a8HWnzrTyhCK aET5Fd3eTGIP a5AOQMnkE6sj aEhr0hFifUdQ aWMD9rbp1W arzW9NL6WYc a243zFpoBOGN aITAPVd7NZ8P aEmwY8o3yE8P a7KDnRYvvcmo aBS5mG52J35R aESGaTgtIpTF aGjr4SMZuwpN aChjWaX2zGEO a2wHXnvArNSW aEvlB7Dp2MPE a2oVGv4BSVhE a3azOossQrzq aCgwdjael8Id aJO9OTSdcSDS a8InCrDZJSqk a4RqoKFDCcsF aEW6FPdjpPe6 aAyQsDq23qUy aFeve8XHQrUo aBaOeoJmtPf8 a2sYvznH30aL aBxF3LMnD2c3 aBuE7yOYtlAS aGgIdUpuOZiF aEKS6SAwtD17 a1SpNdI199Hu aFlYWm3vTPPC aGkNgR2ENRBV aDDZtxAnI02r a3stfKhEuOG1 a4JONbG1KRVf a7sHnKPXLB5k aKhZobug79B1 aJVq2vcXqPs0 aKvn0PalEUNi aBOIR3NNMeqr aIcwWfEebSrg a6cmGXFb9gTy a3VyUdqtvDDR aqTVohl9uTs azCWWRAnD32 aCsgXMR8Q9Gn a4orrLG9yHzM aLeh2XPs7v00 a50Dwd41Pmho a136bfy0B3Yh a2GiohXwNp56 aINiOoOmmN3O aFaVsGOOTsgg aJNnc5RdBFQy aFgmebBcUWwl a7cWJdmdRMh9 aGSScRib4B6w aCo6OH455vgK aAnksJWDaKwG aErcBcVNt5S5 aCx6P8Q7wZGI aIuFaRrP93RG a98N4fP642aT aDRDYJziclBd aANY78tnlcSr a6xHKQYf0y5C aIBQrkKPJHmv aC6dfLvSBHWq a3LAhoi44xlp aGkPGXFUoGuD a7Vix2Ce2E8Y aJqQ4pVHepUX aL2t0fKYGocN aD6RZuR7jinc a9mLXIxCukFP a8WMYFIzWnQk aH2StrXjd1uq a58UggN02Sla aDgqjvQJmIfd aIXNScwBNSmY a5fDE1EDroYY aDEyiGNWQ6P9 aKwO0LWkECVE a467cthLvpK7 aKjGLCmPpkd aJo6xOrwweTS
end PySem.W.Fast
end
namespace InkHd
open PySem PySem.W PyProof.Rows
def fr(o:Obj):=match o.data with|.freed=>none|_=>some o
noncomputable def pk(s:List Obj):Nat→List Nat→List (Option Obj):=s.rec (fun _ _=>[]) fun o _ h i l=>l.rec [] fun a r _=>(i.beq a).rec (h (i+1) l) (fr o::h (i+1) r)
theorem ps:∀(s:List Obj)(i:Nat)(K:Frag),pk s i (K.map (·.1))=K.map (some ·.2)→∀ a b,K.lookup a=some b→∃ n u,a=i+n∧s[n]?=some u∧fr u=some b
|_,_,[],_,_,_=>nofun
|[],_,_::_,e,_,_=>nomatch (id e:[]=_::_)
|o::s,i,(c,d)::K,e,a,b=>by
 have f:((i.beq c).rec (pk s (i+1) (((c,d)::K).map (·.1))) (fr o::pk s (i+1) (K.map (·.1))):List _)=((c,d)::K).map (some ·.2):=e
 have g:(∃ n u,a=i+1+n∧s[n]?=some u∧fr u=some b)→∃ n u,a=i+n∧(o::s)[n]?=some u∧fr u=some b:=fun⟨n,u,h,k⟩=>⟨n+1,u,by rw[h,Nat.add_assoc,Nat.add_comm 1],k⟩
 cases z:i.beq c with
 |false=>rw[z] at f;exact g∘ps s _ _ f a b
 |true=>
  rw[z] at f;injection (id f:fr o::_=some d::_) with p q;intro h;rw[List.lookup_cons] at h;split at h
  next t=>cases h;exact⟨0,o,(eq_of_beq t).trans (Nat.eq_of_beq_eq_true z).symm,rfl,p⟩
  next=>exact g (ps s _ K q a b h)
noncomputable def kF(K:Params→Frag)(l:List Addr)(e:∀P,l=(K P).map (·.1)):Hook where
 α:=List (Option Obj)
 obs s:=pk s.heap.objs.toList 0 l
 val w:=(K w.params).map (some ·.2)
 says:=InK K
 of w s h a o k:=by
  obtain⟨n,⟨_,_,d,_⟩,p,q,r⟩:=ps _ 0 _ (e w.params▸h) a o k
  rw[p,Nat.zero_add];unfold Heap.get?;rw[←Array.getElem?_toList,q];cases d<;>first|exact r|cases r
 keeps:=(kHook K l e).keeps
theorem kIn_of{K:Params→Frag}{e:∀P,l=(K P).map (·.1)}(Y:(kF K l e).says w h):(K w.params).In h:=Y
local macro_rules |`(tactic|o_head ($_:ident $K $l $e))=>`(tactic|o_head (kF $K $l $e : Hook))
set_option maxRecDepth 100000 in
set_option maxHeartbeats 0 in
open_top hd_k49 for PySem.Challenge.rw_inkroot_k49_whole_strikes_commute
end InkHd
noncomputable section
local macro_rules |`(def $d:declId $s:optDeclSig $v:declVal)=>`(noncomputable def $d:declId $s:optDeclSig $v:declVal)
local macro_rules |`(abbrev $d:declId $s:optDeclSig $v:declVal)=>`(noncomputable abbrev $d:declId $s:optDeclSig $v:declVal)
open PySem
open PyProof
open PySem.W (Frag InstAt callWith_K callWith_K0 cellsFrom_some codeIn emptyDict findIn fnOf handedIn hasDictIn instObj isFn kIn_of keepIn kia_one kitOne kitx_dict kitx_list lookIn makesIn methodCall_KW methodObj mg_of mroIn nsIn plainGet plainGet_of plainOver takerIn typeIn)
local macro_rules
|`(⟨$a,*⟩)=>do
 let mut z:=#[]
 let mut c:=false
 for x in a.getElems do
  match x.raw.getId with
  |`Z=>c:=true;z:=z++#[<-`(_),<-`(_),<-`(rfl),<-`(rfl)]
  |`Y=>c:=true;z:=z++#[<-`(_),<-`(rfl)]
  |`V=>c:=true;z:=z++#[<-`(rfl),<-`(rfl)]
  |`K=>c:=true;z:=z++#[<-`(_),<-`(_),<-`(_)]
  |`P=>c:=true;z:=z++#[<-`(_),<-`(_)]
  |`Q=>c:=true;z:=z++#[<-`(by lia)]
  |`E=>c:=true;z:=z++#[<-`(by decide)]
  |_=>z:=z.push x
 if c then`(⟨$z,*⟩)else Lean.Macro.throwUnsupported
local macro_rules|`(tactic|exists $a,*)=>`(tactic|refine ⟨$a,*, ?_⟩)
set_option hygiene false in
local macro_rules|`(‹($a,$i,$p,$s)›)=>`(∀D:Ds K mg aZ br C CS CW CB CT CD,bq P w K mg zt cM $a (aZ $i) (br $i) $p $s)
set_option hygiene false in
local macro_rules|`(class inductive $n:declId $b:bracketedBinder* $c:ctor*)=>`(inductive $n $b* (vs:List V)(H:Hp)(Q:VK)(E:XK):Prop $c:ctor*)
set_option hygiene false in
local macro_rules|`(tactic|specialize $e)=>`(tactic|refine $e λdm A zn s H vs Q E hr h=>?_)
local macro_rules|`(nofun)=>`(by decide +kernel)
local macro_rules|`(∅)=>`(by lia)
namespace L2
open Spec Rows
abbrev eT:=Sum Int Str
def zc:eT->Value->Bool
 | .inl k,v=>Value.isInt k v
 | .inr x,v=>Value.isStrOf x v
def acz(w:World):eT->Int
 | .inl k=>hashInt k
 | .inr x=>hashStr w x
theorem eU:∀ {k:eT} {v:Value},zc k v=true->(∃ i t,k=Sum.inl i/\v=Value.int i t)\/(∃ x t,k=Sum.inr x/\v=Value.str x t)
 | .inl i,v,h=>by
  obtain⟨t,e⟩:=Value.isInt_shape (k:=i) (v:=v) h;exact .inl ⟨i,t,rfl,e⟩
 | .inr x,v,h=>by
  obtain⟨t,e⟩:=Value.isStrOf_shape (x:=x) (v:=v) h;exact .inr ⟨x,t,rfl,e⟩
theorem KO(i:Int)(t:Tok):zc (.inl i) (.int i t)=true:=by simp[zc,Value.isInt]
theorem KP(x:Str)(t:Tok):zc (.inr x) (.str x t)=true:=by simp[zc,Value.isStrOf]
theorem Vb(a b:Int):decide ((Sum.inl a:eT)=Sum.inl b)=(a == b):=by
 by_cases e:a=b
 ·subst e;simp
 ·have h:¬ (Sum.inl a:eT)=Sum.inl b:=λq=>e (Sum.inl.inj q);rw[decide_eq_false h];exact (beq_eq_false_iff_ne.mpr e).symm
theorem Vc(a b:Str):decide ((Sum.inr a:eT)=Sum.inr b)=decide (a=b):=by
 by_cases e:a=b
 ·subst e;simp
 ·have h:¬ (Sum.inr a:eT)=Sum.inr b:=λq=>e (Sum.inr.inj q);rw[decide_eq_false h,decide_eq_false e]
theorem Vd(a:Int)(b:Str):decide ((Sum.inl a:eT)=Sum.inr b)=false:=decide_eq_false (λq=>nomatch q)
theorem Ve(a:Str)(b:Int):decide ((Sum.inr a:eT)=Sum.inl b)=false:=decide_eq_false (λq=>nomatch q)
def fQ(prog:Program)(w:World):PySem.KeyKind prog w eT where
 is:=zc
 hash:=acz w
 inj:=λv a b ha hb=>by
  rcases eU ha with ⟨i,t,rfl,rfl⟩|⟨x,t,rfl,rfl⟩
  ·rcases eU hb with ⟨j,u,rfl,e⟩|⟨y,u,rfl,e⟩
   ·injection e with e1 _;rw[e1]
   ·exact nomatch e
  ·rcases eU hb with ⟨j,u,rfl,e⟩|⟨y,u,rfl,e⟩
   ·exact nomatch e
   ·injection e with e1 _;rw[e1]
 byValue:=λk v h=>by
  rcases eU h with ⟨i,t,rfl,rfl⟩|⟨x,t,rfl,rfl⟩ <;> rfl
 pyHash:=λhv h=>by
  rcases eU hv with ⟨i,t,rfl,rfl⟩|⟨x,t,rfl,rfl⟩
  ·exact wpAny_pyHash_int h
  ·exact wpAny_pyHash_str h
 eqBool:=λhu hv h=>by
  rcases eU hu with ⟨i,t,rfl,rfl⟩|⟨x,t,rfl,rfl⟩
  ·rcases eU hv with ⟨j,u,rfl,rfl⟩|⟨y,u,rfl,rfl⟩
   ·rw[Vb]at h;exact wpAny_eqBool_int h
   ·rw[Vd]at h;exact SeqAt.EqAt.int_str i t y u _ _ _ _ h
  ·rcases eU hv with ⟨j,u,rfl,rfl⟩|⟨y,u,rfl,rfl⟩
   ·rw[Ve]at h;exact SeqAt.EqAt.str_int x t j u _ _ _ _ h
   ·rw[Vc]at h;exact wpAny_eqBool_str h
 «strs»:=λk x t v h=>by
  rcases eU h with ⟨i,u,rfl,e⟩|⟨y,u,rfl,e⟩
  ·exact nomatch e
  ·injection e with e1 _;subst e1
   cases v <;> rfl
theorem Ey(prog:Program)(w:World)(i:Int)(t:Tok):(fQ prog w).is (.inl i) (.int i t)=true:=KO i t
theorem Ez(prog:Program)(w:World)(x:Str)(t:Tok):(fQ prog w).is (.inr x) (.str x t)=true:=KP x t
end L2
namespace L2
open Spec Rows
inductive V where
 | gm | bl (b:Bool) | int (i:Int) | str (x:Str) | G2 (b:Array UInt8) | TY (b:UInt64) | ref (a:Addr) | ty (n:String)
 deriving DecidableEq
def RelV:V->Value->Prop
 | .gm,u=>u=Value.none
 | .bl b,u=>u=Value.bool b
 | .int i,u=>∃ t,u=Value.int i t
 | .str x,u=>∃ t,u=Value.str x t
 | .G2 b,u=>∃ t,u=Value.bytes b t
 | .TY b,u=>∃ t,u=Value.float b t
 | .ref a,u=>u=Value.ref a
 | .ty n,u=>u=Value.type n
abbrev cA:List V->List Value->Prop:=Paired RelV
theorem cA.length{xs:List V}{us:List Value}(r:cA xs us):xs.length=us.length:=Paired.length r
theorem cA.get:∀ {xs:List V} {us:List Value} {i:Nat} {x:V},cA xs us->xs[i]?=some x->∃ u,us[i]?=some u/\RelV x u
 | _,_,_,_,.nil,e=>by simp at e
 | _,_,0,_,.cons r _,e=>by simp at e;subst e;exact⟨Y,r⟩
 | _,_,i+1,x,.cons _ t,e=>by
  obtain⟨u,h1,h2⟩:=cA.get (i:=i) (x:=x) t (by simpa using e);exact⟨u,by simpa using h1,h2⟩
theorem cA.set{x:V}{u:Value}(r:RelV x u):∀ {xs:List V} {us:List Value} (i:Nat),cA xs us->cA (xs.set i x) (us.set i u)
 | _,_,_,.nil=>.nil
 | _,_,0,.cons _ t=>.cons r t
 | _,_,i+1,.cons q t=>.cons q (cA.set r i t)
theorem cA.append{xs ys:List V}{us ws:List Value}(h:cA xs us)(s:cA ys ws):cA (xs++ys) (us++ws):=by
 induction h with
 | nil=>exact s
 | cons r _ ih=>exact .cons r ih
theorem cA.take:∀ {xs:List V} {us:List Value} (n:Nat),cA xs us->cA (xs.take n) (us.take n)
 | _,_,0,_=>.nil
 | _,_,_+1,.nil=>.nil
 | _,_,n+1,.cons r t=>.cons r (cA.take n t)
theorem cA.drop:∀ {xs:List V} {us:List Value} (n:Nat),cA xs us->cA (xs.drop n) (us.drop n)
 | _,_,0,r=>r
 | _,_,_+1,.nil=>.nil
 | _,_,n+1,.cons _ t=>cA.drop n t
def sY:Option V->Option Value->Prop
 | some v,some u=>RelV v u
 | none,none=>True
 | _,_=>False
def KV{κ:Type}:List (κ × V)->List (κ × Value)->Prop:=Paired λ(p:κ × V) (q:κ × Value)=>p.1=q.1/\RelV p.2 q.2
def kV:eT->V
 | .inl i=>.int i
 | .inr x=>.str x
inductive HO where
 | lst (xs:List V)
 | tup (xs:List V)
 | dK (kvs:List (eT × V)) | dT (kvs:List (List eT × V))
 | set (S:Int->Bool) (n:Nat)
 | ins (C dx:Addr) (fs:List (Str × V))
 | own (x:Addr)
 | xd (fs:List (Str × V))
 | met (f x:Addr)
 | EA (lo hi:Int)
 | JC (o:Obj) (u:HO)
 | TZ (ps:Array Value)
 | ext (φ:Heap->Prop)
abbrev Hp:=Addr->Option HO
def aM(H:Hp)(a:Addr)(o:HO):Hp:=λb=>if b=a then some o else H b
theorem af{H:Hp}{a:Addr}{o:HO}:aM H a o a=some o:=by unfold aM;rw[if_pos rfl]
theorem aJ{H:Hp}{a b:Addr}{o:HO}(h:b≠a):aM H a o b=H b:=by unfold aM;rw[if_neg h]
theorem cV{H:Hp}{a b:Addr}{o u:HO}(h:H a=some o)(h':H b=some u)(d:o≠u:=by intro z;cases z):a≠b:=by
 intro e;subst e;rw[h]at h';exact d (qP h')
theorem az{H:Hp}{a b:Addr}{o:HO}(h:H a=some o)(h':H b=none):a≠b:=by
 intro e;subst e;rw[h]at h';cases h'
section
variable (P:Program) (w:World)
def fR(H:Hp)(h:Heap)(a:Addr):HO->Prop
 | .lst xs=>xs.length<=sizeLine/\∃ (aL:List Value) (n:Nat),cA xs aL/\h.get? a=some { cls:=.type "list",data:=.seq aL.toArray n }
 | .tup xs=>xs.length<=sizeLine/\∃ aL:List Value,cA xs aL/\IsTup h a aL.toArray
 | .dK kvs=>kvs.length<=sizeLine/\(a == sysModules)=false/\∃ vs,KV kvs vs/\h.DictOf (fQ P w) a vs
 | .dT kvs=>kvs.length<=sizeLine/\(a == sysModules)=false/\∃ xs:List (List eT × Addr × Value),
   Paired (λ(p:List eT × V) (q:List eT × Addr × Value)=>p.1=q.1/\H q.2.1=some (.tup (p.1.map kV))/\RelV p.2 q.2.2) kvs xs/\
   ∃ o es ep,h.get? a=some o/\o.ExactDict/\o.data=.dict es ep/\es.toList=xs.map (entryOfKey (tupleKind (fQ P w)))/\(xs.map (·.1)).Nodup
 | .set S n=>h.SetOf (intKind P w) a S n
 | .ins C dx fs=>H dx=some (.own a)/\fs.length<=1000/\dx≠a/\h.get? a=some (instObj C dx)/\
   ∃ mA,h.Ns1 dx mA/\(∀ f,sY (fs.lookup f) (mA f))/\PySem.Within mA (fs.map (·.1))
 | .own _=>∃ o,h.get? a=some o
 | .xd fs=>∃ mA,h.Ns1 a mA/\∀ f,sY (fs.lookup f) (mA f)
 | .EA lo hi=>∃ t u v,h.get? a=some { cls:=.type "range",data:=.fields #[.int lo t,.int hi u,.int 1 v] }
 | .JC o u=>h.get? a=some o/\fR H h a u
 | .TZ ps=>h.get? a=some { cls:=.none,data:=.fields ps }
 | .met f x=>h.get? a=some (methodObj (.ref f) (.ref x))
 | .ext φ=>φ h/\(∃ o,h.get? a=some o)/\∀ h1 h2:Heap,φ h1->(∀ o,h1.get? a=some o->h2.get? a=some o)->φ h2
def vd(H:Hp)(h:Heap):Prop:=∀ a o,H a=some o->fR P w H h a o
end
section
variable {P:Program} {w:World} {H H':Hp} {h h':Heap} {a:Addr} {o:HO}
theorem fR.lt(x:fR P w H h a o):a<h.objs.size:=by
 cases o with
 | lst xs=>obtain⟨_,_,_,_,e⟩:=x;exact Heap.lt_size e
 | tup xs=>obtain⟨_,_,_,p⟩:=x;exact p.lt
 | dK kvs=>obtain⟨_,_,_,_,o,_,_,e,_⟩:=x;exact Heap.lt_size e
 | dT kvs=>obtain⟨_,_,_,_,o,_,_,e,_⟩:=x;exact Heap.lt_size e
 | set S n=>obtain⟨o,_,_,_,e,_⟩:=x;exact Heap.lt_size e
 | ins C dx fs=>obtain⟨_,_,_,e,_⟩:=x;exact Heap.lt_size e
 | own y=>obtain⟨_,e⟩:=x;exact Heap.lt_size e
 | xd fs=>obtain⟨_,⟨_,_,_,e,_⟩,_⟩:=x;exact Heap.lt_size e
 | EA lo hi=>obtain⟨_,_,_,e⟩:=x;exact Heap.lt_size e
 | JC ob u=>obtain⟨e,_⟩:=x;exact Heap.lt_size e
 | TZ ps=>exact Heap.lt_size (show h.get? a=some _ from x)
 | met f y=>exact Heap.lt_size (show h.get? a=some _ from x)
 | ext φ=>obtain⟨_,⟨_,e⟩,_⟩:=x;exact Heap.lt_size e
theorem Paired.CH{α β:Type}{F G:α->β->Prop}{l₁:List α}{l₂:List β}(h:Paired F l₁ l₂)(f:∀ a b,F a b->G a b):Paired G l₁ l₂:=by
 induction h with
 | nil=>exact .nil
 | cons r _ ih=>exact .cons (f _ _ r) ih
theorem fR.stay(x:fR P w H h a o)(k:∀ b u,(b=a\/H b=some (.own a))->h.get? b=some u->h'.get? b=some u)
  (ho:∀ b,H b=some (.own a)->H' b=some (.own a)) (ht:∀ b xs,H b=some (.tup xs)->H' b=some (.tup xs)):fR P w H' h' a o:=by
 induction o with
 | lst xs=>obtain⟨z,aL,n,r,e⟩:=x;exact⟨z,aL,n,r,k _ _ (.inl rfl) e⟩
 | tup xs=>obtain⟨z,aL,r,ob,e,c⟩:=x;exact⟨z,aL,r,ob,k _ _ (.inl rfl) e,c⟩
 | dK kvs=>obtain⟨z,y,vs,r,ob,es,ep,e,c⟩:=x;exact⟨z,y,vs,r,ob,es,ep,k _ _ (.inl rfl) e,c⟩
 | dT kvs =>
  obtain⟨z,y,xs,r,ob,es,ep,e,c⟩:=x;exact⟨z,y,xs,Paired.CH r λp q z=>⟨z.1,ht _ _ z.2.1,z.2.2⟩,ob,es,ep,k _ _ (.inl rfl) e,c⟩
 | set S n=>obtain⟨ob,es,ep,t,e,c⟩:=x;exact⟨ob,es,ep,t,k _ _ (.inl rfl) e,c⟩
 | ins C dx fs =>
  obtain⟨d,z,ne,e,mA,⟨od,es,ep,e2,c⟩,r⟩:=x;exact⟨ho _ d,z,ne,k _ _ (.inl rfl) e,mA,⟨od,es,ep,k _ _ (.inr d) e2,c⟩,r⟩
 | own y=>obtain⟨ob,e⟩:=x;exact⟨ob,k _ _ (.inl rfl) e⟩
 | xd fs=>obtain⟨mA,⟨od,es,ep,e,c⟩,r⟩:=x;exact⟨mA,⟨od,es,ep,k _ _ (.inl rfl) e,c⟩,r⟩
 | EA lo hi=>obtain⟨t,u,v,e⟩:=x;exact⟨t,u,v,k _ _ (.inl rfl) e⟩
 | JC ob u ih=>obtain⟨e,q⟩:=x;exact⟨k _ _ (.inl rfl) e,ih q⟩
 | TZ ps =>
  have e:h.get? a=some { cls:=.none,data:=.fields ps }:=x;show h'.get? a=some { cls:=.none,data:=.fields ps };exact k a _ (.inl rfl) e
 | met f y =>
  have e:h.get? a=some (methodObj (.ref f) (.ref y)):=x;show h'.get? a=some (methodObj (.ref f) (.ref y));exact k a _ (.inl rfl) e
 | ext φ=>obtain⟨p,⟨o,e⟩,st⟩:=x;exact⟨st _ _ p λo q=>k _ _ (.inl rfl) q,⟨o,k _ _ (.inl rfl) e⟩,st⟩
theorem vd.lt(x:vd P w H h)(e:H a=some o):a<h.objs.size:=(x a o e).lt
theorem vd.fresh(x:vd P w H h)(e:h.objs.size<=a):H a=none:=by
 cases q:H a with
 | none=>rfl
 | some u=>exact absurd (qN (x.lt q) e) (Nat.lt_irrefl _)
theorem vd.kept(x:vd P w H h)(k:∀ b u,h.get? b=some u->h'.get? b=some u):vd P w H h':=λa o e =>
 (x a o e).stay (λb u _ q=>k b u q) (λ_ q=>q) λ_ _ q=>q
theorem vd.laid(x:vd P w H h)(k:∀ b u,h.get? b=some u->h'.get? b=some u)(hp:h.objs.size<=a)(new:fR P w (aM H a o) h' a o):vd P w (aM H a o) h':=λb u e=>by
 have hn:=x.fresh hp;by_cases hb:b=a
 ·subst hb;rw[af]at e;cases e;exact new
 ·rw[aJ hb]at e;exact (x b u e).stay (λc v _ q=>k c v q) (λc q=>by rw[aJ (az q hn)];exact q) λc xs q=>by rw[aJ (az q hn)];exact q
end
def Rd(H:Hp)(a:Addr)(u:HO):Prop:=H a=some u\/∃ o,H a=some (.JC o u)
theorem Rd.ok{P:Program}{w:World}{H:Hp}{h:Heap}{a:Addr}{u:HO}(r:Rd H a u)(x:vd P w H h):fR P w H h a u:=by
 rcases r with r|⟨o,r⟩
 ·exact x a u r
 ·obtain⟨_,q⟩:=x a _ r;exact q
def Yt:Option HO->Prop
 | some (.lst _)=>True
 | some (.dK _)=>True
 | some (.dT _)=>True
 | some (.set _ _)=>True
 | some (.ins _ _ _)=>True
 | some (.ext _)=>True
 | _=>False
section
variable {P:Program} {w:World} {H:Hp} {h h':Heap} {x e:Addr} {o':HO}
theorem vd.write(ok:vd P w H h)(mu:Yt (H x))(he:e=x\/H e=some (.own x))(k:∀ b u,b≠e->h.get? b=some u->h'.get? b=some u)(XO:∃ u,h'.get? e=some u)
  (new:fR P w (aM H x o') h' x o'):vd P w (aM H x o') h':=λb u q=>by
 have Yu:∀ c y,H c=some (.own y)->c≠x:=λc y r z=>by subst z;rw[r]at mu;exact mu
 have acA:∀ c xs,H c=some (.tup xs)->c≠x:=λc xs r z=>by subst z;rw[r]at mu;exact mu
 by_cases hb:b=x
 ·subst hb;rw[af]at q;cases q;exact new
 ·rw[aJ hb]at q;by_cases Vf:b=e
  ·have q':H b=some (.own x):=by
    rcases he with z|z
    ·exact absurd (Vf.trans z) hb
    ·rw[Vf];exact z
   rw[q]at q';cases q';obtain⟨v,hv⟩:=XO;exact⟨v,by rw[Vf];exact hv⟩
  ·refine (ok b u q).stay (λc v hc r=>k c v ?_ r) (λc r=>by rw[aJ (Yu c b r)];exact r) λc xs r=>by rw[aJ (acA c xs r)];exact r
   rcases hc with rfl|hc
   ·exact Vf
   ·rintro rfl;rcases he with z|z
    ·exact Yu c b hc z
    ·rw[hc]at z;cases z;exact hb rfl
end
structure Un(fs ex:List Addr)(H H':Hp)(h h':Heap):Prop where
 keep:∀ b o,h.get? b=some o->H b=none->b∉fs->b∉ex->h'.get? b=some o
 slot:∀ b o,h.get? b=some o->H b=none->b∈fs->b∉ex->∃ sl,h'.get? b=some { o with slots:=sl }
 free:∀ b o,h.get? b=some o->H b=none->b∉ex->H' b=none
 there:∀ b o,h.get? b=some o->b∉ex->∃ o',h'.get? b=some o'
 tups:∀ b xs,H b=some (.tup xs)->H' b=some (.tup xs)
 CJ:∀ b o u,H b=some (.JC o u)->H' b=some (.JC o u)
 EB:∀ b ps,H b=some (.TZ ps)->∃ more,H' b=some (.TZ (ps++more))
section
variable {fs XQ ex ex':List Addr} {H H1 H2:Hp} {h h1 h2 h':Heap} {a x e:Addr} {o:HO}
theorem Un.any(u:Un fs ex H H1 h h1){b:Addr}{ob:Obj}(q:h.get? b=some ob)(n:H b=none)(hx:b∉ex):∃ sl,h1.get? b=some { ob with slots:=sl }:=by
 by_cases hb:b∈fs
 ·exact u.slot b ob q n hb hx
 ·exact⟨ob.slots,u.keep b ob q n hb hx⟩
theorem Un.kept(k:∀ b u,h.get? b=some u->h'.get? b=some u):Un fs ex H H h h' :=
 ⟨λb ob q _ _ _=>k b ob q,λb ob q _ _ _=>⟨ob.slots,k b ob q⟩,λ_ _ _ n _=>n,λb ob q _=>⟨ob,k b ob q⟩,λ_ _ q=>q,λ_ _ _ q=>q,λ_ ps q=>⟨#[],by rw[q];simp⟩⟩
theorem Un.refl:Un fs ex H H h h:=Un.kept λ_ _ q=>q
theorem Un.laid(k:∀ b u,h.get? b=some u->h'.get? b=some u)(hp:h.objs.size<=a)(hn:H a=none):Un fs ex H (aM H a o) h h' where
 keep:=λb u q _ _ _=>k b u q
 slot:=λb u q _ _ _=>⟨u.slots,k b u q⟩
 free:=λb u q n _=>by rw[aJ (jS (qN (Heap.lt_size q) hp))];exact n
 there:=λb u q _=>⟨u,k b u q⟩
 tups:=λb xs q=>by rw[aJ (az q hn)];exact q
 CJ:=λb u xs q=>by rw[aJ (az q hn)];exact q
 EB:=λb ps q=>⟨#[],by rw[aJ (az q hn),q];simp⟩
theorem Un.write(mu:Yt (H x))(he:e=x\/H e=some (.own x))(k:∀ b u,b≠e->h.get? b=some u->h'.get? b=some u)(XO:∃ u,h'.get? e=some u):Un fs ex H (aM H x o) h h':=by
 have hx:∀ b,H b=none->b≠x:=λb n z=>by subst z;rw[n]at mu;exact mu
 have hb:∀ b,H b=none->b≠e:=λb n z=>by
  subst z;rcases he with r|r
  ·exact hx b n r
  ·rw[n]at r;cases r
 have hm:∀ b u,H b=some u->¬ Yt (some u)->b≠x:=λb u q nm z=>by subst z;rw[q]at mu;exact nm mu
 refine⟨λb u q n _ _=>k b u (hb b n) q,λb u q n _ _=>⟨u.slots,k b u (hb b n) q⟩,λb u q n _=>by rw[aJ (hx b n)];exact n,λb u q _=>?_, λb xs q=>by rw[aJ (hm b _ q λz=>z)];exact q,λb u xs q=>by rw[aJ (hm b _ q λz=>z)];exact q,λb ps q=>⟨#[],by rw[aJ (hm b _ q λz=>z),q];simp⟩⟩;by_cases Vf:b=e
 ·subst Vf;exact XO
 ·exact⟨u,k b u Vf q⟩
end
def trk(h:Heap)(H:Hp):List Addr:=(List.range h.objs.size).filter λa=>(H a).isSome
def CK(h:Heap)(H:Hp):Heap:=PySem.W.hideAll h (trk h H)
theorem KQ(h:Heap)(H:Hp):(CK h H).objs.size=h.objs.size:=PySem.W.hideAll_size _ _
theorem Nd{h:Heap}{H:Hp}{b:Addr}{o:Obj}(e:h.get? b=some o)(n:H b=none):(CK h H).get? b=some o :=
 PySem.W.hideAll_get _ e λhm=>by
  have q:(H b).isSome=true:=(List.mem_filter.mp hm).2;rw[n]at q;simp at q
theorem QL{h:Heap}{H:Hp}{b:Addr}{o:Obj}(e:(CK h H).get? b=some o):h.get? b=some o/\H b=none:=by
 have e':h.get? b=some o:=PySem.W.of_hideAll (trk h H) e;exists e'
 cases q:H b with
 | none=>rfl
 | some x =>
  have hm:b∈trk h H:=List.mem_filter.mpr ⟨List.mem_range.mpr (Heap.lt_size e'),by simp[q]⟩;have z:(CK h H).get? b=none:=PySem.W.hideAll_none (trk h H) hm;rw[z]at e;cases e
end L2
namespace L2
open Spec Rows
structure Mod(K:Frag)(mg:Str->Option Value)(zt:Heap):Prop where
 kin:K.In zt
 glob:zt.Ns mainGlobals mg
 blt:∃ mb,zt.Ns builtinsNs mb/\∀ x:Str,x≠"__name__"->mb x=bootBuiltins x
 nolimit:zt.NoLimit
structure Cx where
 prog:Program
 w:World
 K:Frag
 mg:Str->Option Value
 zt:Heap
 A:Around
 N:List Str
 s₀:Shared
 H₀:Hp
 env:Env
 zn:List Env
 stack:List Env
 ex:List Addr
 fn:Str->Bool
 calm:Bool
 pn:List (Addr × Obj)
 xe:Value->Shared->Prop
def Nf(l:List Env):List Addr:=l.filterMap (·.frame)
abbrev Cx.fs(X:Cx):List Addr:=Nf X.zn
def Vis(sc:Scope)(x:Str):Prop:=sc.names.lookup x=some .local\/sc.names.lookup x=some .cell\/sc.names.lookup x=some .free
def Loc(sc:Scope)(x:Str):Prop:=sc.names.lookup x=some .local\/sc.names.lookup x=some .cell
def Look(env:Env)(h:Heap)(m:Str->Option Value)(x:Str)(u:Value):Prop :=
 (env.kindOf x=some .local/\m x=some u)\/((env.kindOf x=some .cell\/env.kindOf x=some .free)/\∃ c,env.cells.lookup x=some c/\h.IsCell c (some u))
structure Cx.Ok(X:Cx):Prop where
 mod:Mod X.K X.mg X.zt
 kind:X.env.scope.kind=.function
 glob:X.env.globals=mainGlobals
 blt:X.env.builtins=builtinsNs
 above:X.s₀.heap.objs.size<=X.env.locals
 inj:∀ x y c,X.env.cells.lookup x=some c->X.env.cells.lookup y=some c->x=y
 has:∀ x,(X.env.kindOf x=some .cell\/X.env.kindOf x=some .free)->∃ c,X.env.cells.lookup x=some c
 Yv:∀ x c,X.fn x=true->X.env.cells.lookup x=some c->X.s₀.heap.objs.size<=c
 hd:X.calm=true->X.A.handled=none
 frames:X.A.frames=some X.stack
 stk:X.stack=X.zn\/(X.stack=X.env::X.zn/\X.env.frame=some X.env.locals)
 exf:∀ b∈X.ex,b≠X.env.locals/\∀ x c,X.env.cells.lookup x=some c->c≠b
 bs:∀ b o,X.zt.get? b=some o->X.s₀.heap.get? b=some o/\X.H₀ b=none
 T3:X.zt.objs.size<=X.s₀.heap.objs.size
 Ng:∀ b o,X.zt.get? b=some o->b∉X.ex
 QM:∀ b∈X.ex,b∉X.fs
 yv:X.s₀.heap.FunFrames X.zt X.zn
 Vg:∀ b∈X.fs,X.H₀ b=none
structure Inv(X:Cx)(ao:List (Addr × Obj))(σ:List (Option V))(H:Hp)(s:Shared):Prop where
 ok:X.Ok
 os:s.os=X.s₀.os
 bare:AllBare s.gens
 zt:Un X.fs X.ex X.H₀ H X.s₀.heap s.heap
 loc:∃ m,s.heap.Ns X.env.locals m/\∀ (i:Nat) (x:Str) (v:V),X.N[i]?=some x->σ[i]?=some (some v)->Vis X.env.scope x->∃ u,RelV v u/\Look X.env s.heap m x u
 cell:∀ x c,X.env.cells.lookup x=some c->∃ v,s.heap.IsCell c v
 free:H X.env.locals=none
 tL:∀ x c,X.env.cells.lookup x=some c->H c=none
 pin:∀ p∈X.pn++ao,s.heap.get? p.1=some p.2/\H p.1=none/\p.1≠X.env.locals/\p.1∉X.fs/\∀ v,p.2.data≠.cell v
 hok:vd X.prog X.w H s.heap
 len:σ.length=X.N.length
section
variable {X:Cx} {ao:List (Addr × Obj)} {σ:List (Option V)} {H H':Hp} {s:Shared} {h':Heap}
theorem Cx.Ok.acB(ok:X.Ok){b:Addr}{o:Obj}(e:X.zt.get? b=some o):b∉X.fs:=λhb=>by
 have:=(ok.yv.mem hb).1;rw[e]at this;cases this
theorem Inv.bs(I:Inv X ao σ H s):∀ b o,X.zt.get? b=some o->s.heap.get? b=some o/\H b=none:=λb o e =>
 ⟨I.zt.keep b o (I.ok.bs b o e).1 (I.ok.bs b o e).2 (I.ok.acB e) (I.ok.Ng b o e),I.zt.free b o (I.ok.bs b o e).1 (I.ok.bs b o e).2 (I.ok.Ng b o e)⟩
theorem Inv.bk(I:Inv X ao σ H s):∀ b o,X.zt.get? b=some o->s.heap.get? b=some o:=λb o e=>(I.bs b o e).1
theorem Inv.mod(I:Inv X ao σ H s):Mod X.K X.mg X.zt:=I.ok.mod
theorem Inv.xR(I:Inv X ao σ H s):X.K.In s.heap:=I.ok.mod.kin.keeps I.bk
theorem Inv.lt(I:Inv X ao σ H s):X.env.locals<s.heap.objs.size:=let ⟨_,hn,_⟩:=I.loc;hn.lt
theorem Inv.sz(I:Inv X ao σ H s):X.s₀.heap.objs.size<=s.heap.objs.size:=gR I.ok.above (gM I.lt)
theorem Inv.acC(I:Inv X ao σ H s){a:Addr}(h:s.heap.objs.size<=a):a∉X.fs:=λhb=>by
 obtain⟨_,o,ho,_⟩:=I.ok.yv.mem hb;exact absurd (qN (Heap.lt_size ho) (gR I.sz h)) (Nat.lt_irrefl _)
theorem Inv.Vh(I:Inv X ao σ H s):∀ x c,X.env.cells.lookup x=some c->c≠X.env.locals:=λx c e z=>by
 obtain⟨v,o,ho,hd⟩:=I.cell x c e;obtain⟨m,⟨o',es,ep,KR,hd',_⟩,_⟩:=I.loc;rw[z,KR]at ho;cases ho;rw[hd']at hd;cases hd
theorem Inv.yv(I:Inv X ao σ H s):s.heap.FunFrames X.zt X.zn:=by
 have all:∀ (l:List Env),(∀ b∈Nf l,b∈X.fs)->X.s₀.heap.FunFrames X.zt l->s.heap.FunFrames X.zt l:=by
  intro l
  induction l with
  | nil=>intro _ _;trivial
  | cons env r ih =>
   intro hs hl;obtain⟨hk,⟨L,o,hf,hn,ho,hd⟩,hr⟩:=hl;have hL:L∈X.fs:=hs L (by unfold Nf;rw[List.filterMap_cons,hf];exact List.mem_cons_self);obtain⟨sl,e⟩:=I.zt.slot L o ho (I.ok.Vg L hL) hL λz=>I.ok.QM L z hL;exact⟨hk,⟨L,_,hf,hn,e,hd⟩,ih (λb hb=>hs b (by unfold Nf;rw[List.filterMap_cons,hf];exact mE _ hb)) hr⟩
 exact all X.zn (λ_ hb=>hb) I.ok.yv
theorem Inv.stack(I:Inv X ao σ H s):s.heap.FunFrames X.zt X.stack:=by
 rcases I.ok.stk with e|⟨e,hf⟩
 ·rw[e];exact I.yv
 ·rw[e];obtain⟨m,hn,_⟩:=I.loc;refine .cons (by rw[I.ok.kind];decide) hf hn ?_ I.yv;exact Heap.get?_none_of_le (gR I.ok.T3 I.ok.above)
theorem Inv.wI(I:Inv X ao σ H s):∀ b∈Nf X.stack,b∈X.env.locals::X.fs:=λb hb=>by
 rcases I.ok.stk with e|⟨e,hf⟩
 ·rw[e]at hb;exact mE _ hb
 ·rw[e]at hb;unfold Nf at hb;rw[List.filterMap_cons,hf]at hb;exact hb
theorem Inv.JD(I:Inv X ao σ H s):∀ b∈Nf X.stack,H b=none:=λb hb=>by
 rcases List.mem_cons.mp (I.wI b hb) with e|hb
 ·rw[e];exact I.free
 ·obtain⟨_,o,ho,_⟩:=I.ok.yv.mem hb;exact I.zt.free b o ho (I.ok.Vg b hb) λz=>I.ok.QM b z hb
theorem Inv.step{g':Array GenState}{t':Nat}{d':Drawn}{ch:List Addr}(I:Inv X ao σ H s)
  (Qw:∀ b∈ch,(b∈X.ex\/X.s₀.heap.objs.size<=b)/\b≠X.env.locals/\(∀ x c,X.env.cells.lookup x=some c->c≠b)/\∀ p∈X.pn++ao,p.1≠b)
  (keep:∀ b o,b≠X.env.locals->b∉X.fs->b∉ch->s.heap.get? b=some o->H b=none->h'.get? b=some o)
  (slot:∀ b o,b≠X.env.locals->b∈X.fs->b∉ch->s.heap.get? b=some o->H b=none->∃ sl,h'.get? b=some { o with slots:=sl }) (free:∀ b o,b∉ch->s.heap.get? b=some o->H b=none->H' b=none)
  (there:∀ b o,b∉ch->s.heap.get? b=some o->∃ o',h'.get? b=some o')
  (tups:∀ b xs,H b=some (.tup xs)->H' b=some (.tup xs)) (CJ:∀ b o u,H b=some (.JC o u)->H' b=some (.JC o u)) (EB:∀ b ps,H b=some (.TZ ps)->∃ more,H' b=some (.TZ (ps++more)))
  (ns:∀ m,s.heap.Ns X.env.locals m->h'.Ns X.env.locals m) (hok:vd X.prog X.w H' h') (hg:AllBare g') :
  Inv X ao σ H' { s with heap:=h',gens:=g',drawn:=d',toks:=t' }:=by
 have neL:∀ b o,X.s₀.heap.get? b=some o->b≠X.env.locals:=λb o e=>jS (qN (Heap.lt_size e) I.ok.above)
 have neC:∀ b o,X.s₀.heap.get? b=some o->b∉X.ex->b∉ch:=λb o e hx hb=>by
  rcases (Qw b hb).1 with z|z
  ·exact hx z
  ·exact absurd (qN (Heap.lt_size e) z) (Nat.lt_irrefl _)
 have cellK:∀ x c,X.env.cells.lookup x=some c->∀ v,s.heap.IsCell c v->h'.IsCell c v:=λx c e v ⟨o,ho,hd⟩=>by
  have Yw:c∉ch:=λz=>(Qw c z).2.2.1 x c e rfl;by_cases hc:c∈X.fs
  ·obtain⟨sl,q⟩:=slot c o (I.Vh x c e) hc Yw ho (I.tL x c e);exact⟨_,q,hd⟩
  ·exact⟨o,keep c o (I.Vh x c e) hc Yw ho (I.tL x c e),hd⟩
 refine⟨I.ok,I.os,hg,⟨λb o e n hb hx=>?_,λb o e n hb hx=>?_,λb o e n hx=>?_,λb o e hx=>?_,λb xs e=>tups b xs (I.zt.tups b xs e),λb o xs e=>CJ b o xs (I.zt.CJ b o xs e),λb ps e=>?_⟩,?_,λx c e=>?_,?_,λx c e=>?_,λp hp=>?_,hok,I.len⟩
 ·exact keep b o (neL b o e) hb (neC b o e hx) (I.zt.keep b o e n hb hx) (I.zt.free b o e n hx)
 ·obtain⟨sl,e1⟩:=I.zt.slot b o e n hb hx;obtain⟨sl',e2⟩:=slot b _ (neL b o e) hb (neC b o e hx) e1 (I.zt.free b o e n hx);exact⟨sl',e2⟩
 ·obtain⟨o',e1⟩:=I.zt.there b o e hx;exact free b o' (neC b o e hx) e1 (I.zt.free b o e n hx)
 ·obtain⟨o',e1⟩:=I.zt.there b o e hx;exact there b o' (neC b o e hx) e1
 ·obtain⟨m1,e1⟩:=I.zt.EB b ps e;obtain⟨m2,e2⟩:=EB b _ e1;exact⟨m1++m2,by rw[e2,Array.append_assoc]⟩
 ·obtain⟨m,hn,hl⟩:=I.loc;refine⟨m,ns m hn,λi x v e1 e2 e3=>?_⟩;obtain⟨u,r,l⟩:=hl i x v e1 e2 e3;exists u,r;rcases l with l|⟨k,c,e,z⟩
  ·exact .inl l
  ·exact .inr ⟨k,c,e,cellK x c e _ z⟩
 ·obtain⟨v,z⟩:=I.cell x c e;exact⟨v,cellK x c e v z⟩
 ·obtain⟨m,⟨o,_,_,ho,_⟩,_⟩:=I.loc;exact free _ o (λz=>(Qw _ z).2.1 rfl) ho I.free
 ·obtain⟨v,o,ho,hd⟩:=I.cell x c e;exact free c o (λz=>(Qw c z).2.2.1 x c e rfl) ho (I.tL x c e)
 ·obtain⟨e,n,ne,nf,d⟩:=I.pin p hp;have Yw:p.1∉ch:=λz=>(Qw p.1 z).2.2.2 p hp rfl;exact⟨keep p.1 p.2 ne nf Yw e n,free p.1 p.2 Yw e n,ne,nf,d⟩
theorem Inv.un{t':Nat}(I:Inv X ao σ H s)(u:Un X.fs [] H H' s.heap h')(hok:vd X.prog X.w H' h'):Inv X ao σ H' { s with heap:=h',toks:=t' }:=by
 obtain⟨m,⟨o,es,ep,ho,r⟩,_⟩:=id I.loc;obtain⟨sl,hL⟩:=u.any ho I.free (by simp)
 exact I.step (g':=s.gens) (d':=s.drawn) (ch:=[]) (λ_ z=>nomatch z) (λb o _ hb _ e n=>u.keep b o e n hb (by simp)) (λb o _ hb _ e n=>u.slot b o e n hb (by simp)) (λb o _ e n=>u.free b o e n (by simp)) (λb o _ e=>u.there b o e (by simp)) u.tups u.CJ u.EB (λm' hm=>by
  obtain⟨o',wz,ep',KR,r'⟩:=hm;rw[ho]at KR;cases KR
  exact⟨_,wz,ep',hL,r'⟩) hok I.bare
theorem Inv.call{g':Array GenState}{t':Nat}{d':Drawn}{ch:List Addr}(I:Inv X ao σ H s)(u:Un (Nf X.stack) ch H H' s.heap h')(hok:vd X.prog X.w H' h')(hg:AllBare g')
  (Qw:∀ b∈ch,(b∈X.ex\/X.s₀.heap.objs.size<=b)/\b≠X.env.locals/\(∀ x c,X.env.cells.lookup x=some c->c≠b)/\∀ p∈X.pn++ao,p.1≠b) :
  Inv X ao σ H' { s with heap:=h',gens:=g',drawn:=d',toks:=t' }:=by
 obtain⟨m,⟨o,es,ep,ho,r⟩,_⟩:=id I.loc;obtain⟨sl,hL⟩:=u.any ho I.free λz=>(Qw _ z).2.1 rfl
 exact I.step (ch:=ch) Qw (λb o hL hb hc e n=>u.keep b o e n (λz=>(List.mem_cons.mp (I.wI b z)).elim hL hb) hc) (λb o _ _ hc e n=>u.any e n hc) (λb o hc e n=>u.free b o e n hc) (λb o hc e=>u.there b o e hc) u.tups u.CJ u.EB (λm' hm=>by
  obtain⟨o',wz,ep',KR,r'⟩:=hm;rw[ho]at KR;cases KR
  exact⟨_,wz,ep',hL,r'⟩) hok hg
theorem Inv.turned{t':Nat}{it:Addr}(I:Inv X ao σ H s)(k:∀ b o,b≠it->s.heap.get? b=some o->h'.get? b=some o)(hn:H it=none)(hL:it≠X.env.locals)
  (h1:it∈X.ex\/X.s₀.heap.objs.size<=it) (h2:∀ x c,X.env.cells.lookup x=some c->c≠it) (h3:∀ p∈X.pn++ao,p.1≠it):Inv X ao σ H { s with heap:=h',toks:=t' }:=by
 have T4:∀ b u,H b=some u->b≠it:=λb u e z=>by rw[z,hn]at e;cases e
 refine I.step (g':=s.gens) (d':=s.drawn) (ch:=[it]) (λb hb=>?_) (λb o _ _ hc e _=>k b o (λz=>hc (by simp[z])) e) (λb o _ _ hc e _=>⟨o.slots,k b o (λz=>hc (by simp[z])) e⟩) (λ_ _ _ _ n=>n) (λb o hc e=>⟨o,k b o (λz=>hc (by simp[z])) e⟩) (λ_ _ e=>e) (λ_ _ _ e=>e) (λb ps e=>⟨#[],by rw[e];simp⟩) (λm hm=>?_) (λb u e=>?_) I.bare
 ·have e:b=it:=by simpa using hb
  subst e;exact⟨h1,hL,h2,h3⟩
 ·obtain⟨o,es,ep,ho,r⟩:=hm;exact⟨o,es,ep,k _ o (Ne.symm hL) ho,r⟩
 ·refine (I.hok b u e).stay (λc v hc q=>k c v ?_ q) (λ_ q=>q) λ_ _ q=>q;rcases hc with z|z
  ·rw[z];exact T4 b u e
  ·exact T4 c _ z
theorem Inv.tok(I:Inv X ao σ H s)(t:Nat):Inv X ao σ H { s with toks:=t }:=I.un (h':=s.heap) (t':=t) Un.refl I.hok
theorem Inv.kept{t':Nat}(I:Inv X ao σ H s)(k:∀ b u,s.heap.get? b=some u->h'.get? b=some u):Inv X ao σ H { s with heap:=h',toks:=t' }:=I.un (Un.kept k) (I.hok.kept k)
theorem Inv.laid{a:Addr}{o:HO}{t':Nat}(I:Inv X ao σ H s)(k:∀ b u,s.heap.get? b=some u->h'.get? b=some u)(hp:s.heap.objs.size<=a)(new:fR X.prog X.w (aM H a o) h' a o) :
  Inv X ao σ (aM H a o) { s with heap:=h',toks:=t' }:=I.un (Un.laid k hp (I.hok.fresh hp)) (I.hok.laid k hp new)
theorem Inv.write{x e:Addr}{o:HO}{t':Nat}(I:Inv X ao σ H s)(mu:Yt (H x))(he:e=x\/H e=some (.own x))(k:∀ b u,b≠e->s.heap.get? b=some u->h'.get? b=some u)(XO:∃ u,h'.get? e=some u)
  (new:fR X.prog X.w (aM H x o) h' x o):Inv X ao σ (aM H x o) { s with heap:=h',toks:=t' }:=I.un (Un.write mu he k XO) (I.hok.write mu he k XO new)
theorem Inv.JE(I:Inv X ao σ H s)(h:∀ p∈T5,s.heap.get? p.1=some p.2/\H p.1=none/\p.1≠X.env.locals/\p.1∉X.fs/\∀ v,p.2.data≠.cell v):Inv X T5 σ H s :=
 ⟨I.ok,I.os,I.bare,I.zt,I.loc,I.cell,I.free,I.tL,λp hp=>(List.mem_append.mp hp).elim (λz=>I.pin p (qE _ z)) (h p),I.hok,I.len⟩
theorem EC{N:List Str}(hN:N.Nodup){i j:Nat}{x:Str}(a:N[i]?=some x)(b:N[j]?=some x):i=j:=by
 obtain⟨h1,e1⟩:=List.getElem?_eq_some_iff.mp a;obtain⟨h2,e2⟩:=List.getElem?_eq_some_iff.mp b;exact (List.getElem_inj hN).mp (e1.trans e2.symm)
theorem BB{M:Model}{A:Around}{E:Value->Shared->Prop}{i:Nat}{x:Str}{v:V}{u:Value}{Q:Unit->Shared->Prop}(I:Inv X ao σ H s)(hN:X.N.Nodup)(hi:X.N[i]?=some x)(hx:Loc X.env.scope x)(r:RelV v u)
  (h:∀ s',Inv X ao (σ.set i (some v)) H s'->(∃ a,Heap.SameBut a s.heap s'.heap/\(a=X.env.locals\/X.env.cells.lookup x=some a))->Q () s') (hf:X.fn x=true\/X.env.scope.names.lookup x=some .local:=by first|exact .inl rfl|exact .inr rfl|assumption):wpAny M A (storeName X.env x u) Q E s:=by
 obtain⟨m,hn,hl⟩:=id I.loc;have hcls:(X.env.scope.kind == .class || (X.env.scope.kind == .module&&X.env.locals != X.env.globals))=false:=by rw[I.ok.kind];rfl
 have hiσ:i<σ.length:=by rw[I.len];exact (List.getElem?_eq_some_iff.mp hi).1
 have Vh:=I.Vh
 have tracked:∀ {a:Addr} {h':Heap},(∃ o,s.heap.get? a=some o/\H a=none)->Heap.SameBut a s.heap h'->vd X.prog X.w H h':=λ{a h'} ha hs b ob e=>by
  obtain⟨_,_,JF⟩:=ha;refine (I.hok b ob e).stay (λc w' hc q=>(hs.2 c ?_).trans q) (λ_ q=>q) λ_ _ q=>q;rintro rfl;rcases hc with rfl|hc
  ·rw[JF]at e;cases e
  ·rw[JF]at hc;cases hc
 rcases hx with hk|hk
 ·refine wpAny_storeName_local hk hn (λh' hn' hs=>?_) hcls;obtain⟨oL,_,_,hoL,_⟩:=id hn;refine h _ ⟨I.ok,I.os,I.bare,⟨λb o e n hb hx=>?_,λb o e n hb hx=>?_,I.zt.free,λb o e hx=>?_,I.zt.tups,I.zt.CJ,I.zt.EB⟩,⟨_,hn',λj y v' e1 e2 e3=>?_⟩,λy c e=>?_,I.free,I.tL,λp hp=>?_,tracked ⟨oL,hoL,I.free⟩ hs,by simpa using I.len⟩ ⟨_,hs,.inl rfl⟩
  ·exact (hs.2 b (jS (qN (Heap.lt_size e) I.ok.above))).trans (I.zt.keep b o e n hb hx)
  ·obtain⟨sl,e1⟩:=I.zt.slot b o e n hb hx;exact⟨sl,(hs.2 b (jS (qN (Heap.lt_size e) I.ok.above))).trans e1⟩
  ·obtain⟨o',e1⟩:=I.zt.there b o e hx;exact⟨o',(hs.2 b (jS (qN (Heap.lt_size e) I.ok.above))).trans e1⟩
  ·by_cases hj:j=i
   ·subst hj;rw[hi]at e1;cases e1;rw[List.getElem?_set_self hiσ]at e2;cases e2;exact⟨u,r,.inl ⟨hk,by simp⟩⟩
   ·rw[List.getElem?_set_ne (Ne.symm hj)]at e2;obtain⟨u',r',q⟩:=hl j y v' e1 e2 e3;exists u',r';rcases q with ⟨k,e⟩|⟨k,c,e,z⟩
    ·refine .inl ⟨k,?_⟩;have:y≠x:=λe=>hj (EC hN e1 (e ▸ hi));simp[this,e]
    ·exact .inr ⟨k,c,e,z.sameBut hs (Vh y c e)⟩
  ·obtain⟨w',z⟩:=I.cell y c e;exact⟨w',z.sameBut hs (Vh y c e)⟩
  ·obtain⟨e,n,ne,nf,d⟩:=I.pin p hp;exact⟨(hs.2 p.1 ne).trans e,n,ne,nf,d⟩
 ·have hfn:X.fn x=true:=by
   rcases hf with z|z
   ·exact z
   ·rw[z]at hk;cases hk
  obtain⟨c,hc⟩:=I.ok.has x (.inl hk);obtain⟨w',z⟩:=I.cell x c hc;refine wpAny_storeName_cell I.ok.kind hk hc z (λh' Yx hs=>?_);obtain⟨oc,hoc,acF⟩:=id z;refine h { s with heap:=h' } ⟨I.ok,I.os,I.bare,⟨λb o e n hb hx=>?_,λb o e n hb hx=>?_,I.zt.free,λb o e hx=>?_,I.zt.tups,I.zt.CJ,I.zt.EB⟩,⟨m,hn.sameBut hs (Ne.symm (Vh x c hc)),λj y v' e1 e2 e3=>?_⟩,λy c' e=>?_,I.free,I.tL,λp hp=>?_,tracked ⟨oc,hoc,I.tL x c hc⟩ hs,by simpa using I.len⟩ ⟨c,hs,.inr hc⟩
  ·exact (hs.2 b (jS (qN (Heap.lt_size e) (I.ok.Yv x c hfn hc)))).trans (I.zt.keep b o e n hb hx)
  ·obtain⟨sl,e1⟩:=I.zt.slot b o e n hb hx;exact⟨sl,(hs.2 b (jS (qN (Heap.lt_size e) (I.ok.Yv x c hfn hc)))).trans e1⟩
  ·obtain⟨o',e1⟩:=I.zt.there b o e hx;exact⟨o',(hs.2 b (jS (qN (Heap.lt_size e) (I.ok.Yv x c hfn hc)))).trans e1⟩
  ·by_cases hj:j=i
   ·subst hj;rw[hi]at e1;cases e1;rw[List.getElem?_set_self hiσ]at e2;cases e2;exact⟨u,r,.inr ⟨.inl hk,c,hc,Yx⟩⟩
   ·rw[List.getElem?_set_ne (Ne.symm hj)]at e2;obtain⟨u',r',q⟩:=hl j y v' e1 e2 e3;exists u',r';rcases q with q|⟨k,c',e,z'⟩
    ·exact .inl q
    ·refine .inr ⟨k,c',e,z'.sameBut hs ?_⟩;rintro rfl;exact hj (EC hN e1 (I.ok.inj _ _ _ e hc ▸ hi))
  ·by_cases hcc:c'=c
   ·subst hcc;exact⟨_,Yx⟩
   ·obtain⟨w2,z2⟩:=I.cell y c' e;exact⟨w2,z2.sameBut hs hcc⟩
  ·obtain⟨e,n,ne,nf,d⟩:=I.pin p hp;refine⟨(hs.2 p.1 ?_).trans e,n,ne,nf,d⟩;intro q;rw[q,hoc]at e;have q':oc=p.2:=qP e;exact d w' (by rw[← q'];exact acF)
theorem zd{M:Model}{A:Around}{E:Value->Shared->Prop}{i:Nat}{x:Str}{v:V}{u:Value}{Q:Unit->Shared->Prop}(I:Inv X ao σ H s)(hN:X.N.Nodup)(hi:X.N[i]?=some x)(hx:Loc X.env.scope x)(r:RelV v u)
  (h:∀ s',Inv X ao (σ.set i (some v)) H s'->Q () s') (hf:X.fn x=true\/X.env.scope.names.lookup x=some .local:=by first|exact .inl rfl|exact .inr rfl|assumption):wpAny M A (storeName X.env x u) Q E s :=
 BB I hN hi hx r (λs' I' _=>h s' I') hf
theorem Inv.Yy{s':Shared}{ch:List Addr}(I:Inv X ao σ H s)(ho:s'.os=s.os)(u:Un (Nf X.stack) ch H H' s.heap s'.heap)(hok:vd X.prog X.w H' s'.heap)(hg:AllBare s'.gens)
  (Qw:∀ b∈ch,(b∈X.ex\/X.s₀.heap.objs.size<=b)/\b≠X.env.locals/\(∀ x c,X.env.cells.lookup x=some c->c≠b)/\∀ p∈X.pn++ao,p.1≠b):Inv X ao σ H' s':=by
 obtain⟨h',g',d',t',o'⟩:=s';have e:o'=s.os:=ho;subst e;exact I.call (g':=g') (t':=t') (d':=d') u hok hg Qw
end
abbrev XK:=Value->Option Addr->Hp->Prop
abbrev St:=List (Option V)
abbrev VK:=V->Hp->Prop
abbrev TE:=St->Hp->VK->Prop
abbrev TT:=St->Hp->(Bool->Hp->Prop)->Prop
abbrev TA:=St->Hp->(List V->Hp->Prop)->Prop
structure Ends where
 nx:St->Hp->Prop
 rt:VK
 bk:St->Hp->Prop:=λ_ _=>False
 ct:St->Hp->Prop:=λ_ _=>False
abbrev TS:=Ends->St->Hp->Prop
inductive EP(X:Cx)(ao:List (Addr × Obj))(σ:St)(Q:VK)(u:Value)(s':Shared):Prop
 | mk (v:V) (H':Hp) (_:Inv X ao σ H' s') (_:RelV v u) (_:Q v H')
def TP(X:Cx)(ao:List (Addr × Obj))(σ:St)(Q:Bool->Hp->Prop)(b:Bool)(s':Shared):Prop:=∃ H',Inv X ao σ H' s'/\Q b H'
inductive AP(X:Cx)(ao:List (Addr × Obj))(σ:St)(Q:List V->Hp->Prop)(us:List Value)(s':Shared):Prop
 | mk (vs:List V) (H':Hp) (_:Inv X ao σ H' s') (_:cA vs us) (_:Q vs H')
def SP(X:Cx)(ao:List (Addr × Obj))(D:Ends)(f:Flow)(s':Shared):Prop :=
 match f with
 | .next=>∃ σ' H',Inv X ao σ' H' s'/\D.nx σ' H'
 | .brk=>∃ σ' H',Inv X ao σ' H' s'/\D.bk σ' H'
 | .cont=>∃ σ' H',Inv X ao σ' H' s'/\D.ct σ' H'
 | .ret u=>∃ v σ' H',Inv X ao σ' H' s'/\RelV v u/\D.rt v H'
def PE(X:Cx)(e:Expr)(t:TE):Prop :=
 ∀ (ao:List (Addr × Obj)) (s:Shared) (σ:St) (H:Hp) (Q:VK),Inv X ao σ H s->t σ H Q->wpAny (model X.prog X.w) X.A (eval e X.env) (EP X ao σ Q) X.xe s
def PT(X:Cx)(e:Expr)(t:TT):Prop :=
 ∀ (ao:List (Addr × Obj)) (s:Shared) (σ:St) (H:Hp) (Q:Bool->Hp->Prop),Inv X ao σ H s->t σ H Q->wpAny (model X.prog X.w) X.A (isTrue e X.env (eval e X.env)) (TP X ao σ Q) X.xe s
def PW(X:Cx)(e:Expr)(t:TT):Prop :=
 ∀ (ze:Sem Value) (ao:List (Addr × Obj)) (s:Shared) (σ:St) (H:Hp) (Q:Bool->Hp->Prop),Inv X ao σ H s->t σ H Q->wpAny (model X.prog X.w) X.A (isTrue e X.env ze) (TP X ao σ Q) X.xe s
theorem PW.pt{X:Cx}{e:Expr}{t:TT}(h:PW X e t):PT X e t:=h _
def PA(X:Cx)(es:List Expr)(t:TA):Prop :=
 ∀ (pos:Pos) (ao:List (Addr × Obj)) (s:Shared) (σ:St) (H:Hp) (Q:List V->Hp->Prop),Inv X ao σ H s->t σ H Q->wpAny (model X.prog X.w) X.A (spliced (backTo pos (starEach es X.env))) (AP X ao σ Q) X.xe s
def PS(X:Cx)(st:Stmt)(t:TS):Prop :=
 ∀ (ao:List (Addr × Obj)) (s:Shared) (σ:St) (H:Hp) (D:Ends),Inv X ao σ H s->t D σ H->wpAny (model X.prog X.w) X.A (exec st X.env) (SP X ao D) X.xe s
def JG(X:Cx)(st:List Stmt)(t:TS):Prop :=
 ∀ (ao:List (Addr × Obj)) (s:Shared) (σ:St) (H:Hp) (D:Ends),Inv X ao σ H s->t D σ H->wpAny (model X.prog X.w) X.A (execs st X.env) (SP X ao D) X.xe s
theorem c9{α:Type}{t:Sem α}{Q Q':α->Shared->Prop}{M:Model}{A:Around}{E:Value->Shared->Prop}{s:Shared}(h:wpAny M A t Q E s)(hQ:∀ a s,Q a s->Q' a s):wpAny M A t Q' E s:=wpAny_mono h hQ λ_ _ x=>x
end L2
namespace L2
open Spec Rows
section
variable {X:Cx}
inductive Vi(i:Nat)(σ:St)(H:Hp)(Q:VK):Prop
 | mk (v:V) (_:σ[i]?=some (some v)) (_:Q v H)
inductive isB(x:V)(H:Hp)(Q:Bool->Hp->Prop):Prop
 | mk (c:Bool) (_:x=.bl c) (_:Q c H)
inductive isI(x:V)(H:Hp)(Q:Option Int->Hp->Prop):Prop
 | mk (i:Int) (_:x=.int i) (_:Q (some i) H)
def tC(v:V):TE:=λ_ H Q=>Q v H
theorem Vj{i:Nat}{x:Str}(hN:X.N[i]?=some x)(hv:Vis X.env.scope x)(hd:(x == ("__debug__":Str))=false:=by decide)(Nh:(x == ("__classdict__":Str))=false:=by decide):PE X (.Name x pos) (Vi i):=by
 intro ao s σ H Q I h;obtain⟨v,e,h⟩:=h;obtain⟨m,hn,hl⟩:=I.loc;obtain⟨u,r,l⟩:=hl i x v hN e hv;have jN:EP X ao σ Q u s:=⟨v,H,I,r,h⟩;rcases l with ⟨hk,hm⟩|⟨hk,c,hc,hcell⟩
 ·exact wpAny_Name (wpAny_loadName_local I.ok.kind hk hn hm jN) hd
 ·rcases hk with hk|hk
  ·exact wpAny_Name (wpAny_loadName_cell I.ok.kind hk hc hcell jN) hd
  ·exact wpAny_Name (wpAny_loadName_free I.ok.kind hk hc hcell jN Nh) hd
theorem ay{i j pos}:PE X (.Constant (.int i) j pos) (tC (.int i)):=λ_ _ _ H _ I h=>wpAny_Constant_int ⟨.int i,H,I.tok _,⟨Y⟩,h⟩
theorem qm{b j pos}:PE X (.Constant (.bool b) j pos) (tC (.bl b)):=λ_ _ _ H _ I h=>Constant_bool ⟨.bl b,H,I,rfl,h⟩
theorem Vk{j pos}:PE X (.Constant .none j pos) (tC .gm):=λ_ _ _ H _ I h=>Constant_none ⟨.gm,H,I,rfl,h⟩
theorem bH{x j pos}:PE X (.Constant (.str x) j pos) (tC (.str x)):=λ_ _ _ H _ I h=>Calls.Constant_str ⟨.str x,H,I.tok _,⟨Y⟩,h⟩
def Gl(X:Cx)(x:Str):Prop:=X.env.kindOf x=some .globalImplicit
theorem yQ{E:Value->Shared->Prop}{s:Shared}{σ:St}{H:Hp}{x:Str}{u:Value}{Q:Value->Shared->Prop}(I:Inv X ao σ H s)(hg:Gl X x)(hm:X.mg x=some u)(h:Q u s)
  (hd:(x == ("__debug__":Str))=false:=by decide):wpAny (model X.prog X.w) X.A (eval (.Name x pos) X.env) Q E s :=
 Calls.Name_function_global I.ok.kind hg (Calls.loadGlobal_global (by rw[I.ok.glob];exact I.mod.glob.keeps I.bk) hm h) hd
theorem zf{E:Value->Shared->Prop}{s:Shared}{σ:St}{H:Hp}{x:Str}{u:Value}{Q:Value->Shared->Prop}(I:Inv X ao σ H s)(hg:Gl X x)(hm:X.mg x=none)(hv:bootBuiltins x=some u)(h:Q u s)
  (hn:x≠"__name__":=by decide) (hd:(x == ("__debug__":Str))=false:=by decide):wpAny (model X.prog X.w) X.A (eval (.Name x pos) X.env) Q E s:=by
 obtain⟨mb,h1,h2⟩:=I.mod.blt;exact Calls.Name_function_global I.ok.kind hg (Calls.loadGlobal_builtin (by rw[I.ok.glob];exact I.mod.glob.keeps I.bk) hm (by rw[I.ok.blt];exact h1.keeps I.bk) ((h2 x hn).trans hv) h) hd
theorem JH{x:Str}{v:V}{u:Value}(hg:Gl X x)(hm:X.mg x=some u)(r:RelV v u)(hd:(x == ("__debug__":Str))=false:=by decide):PE X (.Name x pos) (tC v) :=
 λ_ _ _ H _ I h=>yQ I hg hm ⟨v,H,I,r,h⟩ hd
theorem QN{x:Str}{v:V}{u:Value}(hg:Gl X x)(hm:X.mg x=none)(hv:bootBuiltins x=some u)(r:RelV v u)(hn:x≠"__name__":=by decide)(hd:(x == ("__debug__":Str))=false:=by decide):PE X (.Name x pos) (tC v) :=
 λ_ _ _ H _ I h=>zf I hg hm hv ⟨v,H,I,r,h⟩ hn hd
variable {a b:Expr} {ta tb:TE} {pos:Pos}
def PC(X:Cx)(op:CmpOp)(a b:Expr)(t:TE):Prop :=
 ∀ (ao:List (Addr × Obj)) (s:Shared) (σ:St) (H:Hp) (Q:VK),Inv X ao σ H s->t σ H Q->
  wpAny (model X.prog X.w) X.A (eval a X.env) (λv s₁=>wpAny (model X.prog X.w) X.A (eval b X.env) (λu s₂=>wpAny (model X.prog X.w) X.A (compareOp op v u) (EP X ao σ Q) X.xe s₂) X.xe s₁) X.xe s
theorem ED(b:Expr){op:CmpOp}(h:op≠.In)(h2:op≠.NotIn):behindInMarks op b=false:=by
 have e1:(op == CmpOp.In)=false:=by cases op <;> first|rfl|exact absurd rfl h
 have e2:(op == CmpOp.NotIn)=false:=by cases op <;> first|rfl|exact absurd rfl h2
 cases b <;> simp[behindInMarks,e1,e2]
def acG(ta:TE):TE:=fun σ H Q=>ta σ H λx H1=>Q (.bl (decide (x=.gm))) H1
def Yz(ta:TE):TE:=fun σ H Q=>ta σ H λx H1=>Q (.bl (!decide (x=.gm))) H1
theorem RelV.EE{x:V}{v:Value}(r:RelV x v):(v == Value.none)=decide (x=.gm):=by
 cases x with
 | gm=>cases r;rfl
 | bl _=>cases r;rfl
 | int _=>obtain⟨t,rfl⟩:=r;rfl
 | str _=>obtain⟨t,rfl⟩:=r;rfl
 | G2 _=>obtain⟨t,rfl⟩:=r;rfl
 | TY _=>obtain⟨t,rfl⟩:=r;rfl
 | ref _=>cases r;rfl
 | ty _=>cases r;rfl
theorem Ni{j iU}(ha:PE X a ta):PC X .Is a (.Constant .none j iU) (acG ta):=by
 intro ao s σ H Q I h;refine c9 (ha ao s σ H _ I h) λv s1 AR=>?_;obtain⟨x,H1,I1,r1,q1⟩:=AR;exact Constant_none (is_none_gen ⟨.bl _,H1,I1,by rw[r1.EE];rfl,q1⟩)
theorem QO{j iU}(ha:PE X a ta):PC X .IsNot a (.Constant .none j iU) (Yz ta):=by
 intro ao s σ H Q I h;refine c9 (ha ao s σ H _ I h) λv s1 EF=>?_;obtain⟨x,H1,I1,r1,q1⟩:=EF;exact Constant_none (isnot_none_gen ⟨.bl _,H1,I1,by rw[r1.EE];rfl,q1⟩)
def tB(t:TE):TT:=fun σ H Q=>t σ H λx H1=>isB x H1 Q
theorem Vl{op:CmpOp}{t:TE}(h:PC X op a b t)(h1:behindInMarks op b=false:=by first|exact ED _ (by decide) (by decide)|rfl):PE X (.Compare a [op] [b] pos) t:=λao s σ H Q I hw=>wpAny_Compare1 (h ao s σ H Q I hw) h1
theorem CL{op:CmpOp}{t:TE}(h:PC X op a b t)(h1:behindInMarks op b=false:=by first|exact ED _ (by decide) (by decide)|rfl):PT X (.Compare a [op] [b] pos) (tB t):=by
 intro ao s σ H Q I hw;refine wpAny_isTrue_Compare1 (c9 (h ao s σ H _ I hw) λv s1 h1=>c9 h1 λu s2 h2=>c9 h2 λc s3 ⟨x,H1,I1,r1,q1⟩=>?_) h1;obtain⟨d,rfl,q⟩:=q1;cases r1;exact wpAny_truthy_bool ⟨H1,I1,q⟩
theorem mF{e:Expr}{t:TE}(h:PE X e t)(he:∀ ze,isTrue e X.env ze=(do let v ← ze;standAt e.pos;holding [v] (truthy v)):=by intro _;rfl):PT X e (tB t):=by
 intro ao s σ H Q I hw;refine isTrue_plain (c9 (h ao s σ H _ I hw) λv s1 ⟨x,H1,I1,r1,q1⟩=>?_) (he _);obtain⟨d,rfl,q⟩:=q1;cases r1;exact wpAny_truthy_bool ⟨H1,I1,q⟩
variable {tA tB':TT} {vh:List Expr}
def acH(t u:TT):TT:=fun σ H Q=>t σ H λc H1=>if c=true then u σ H1 Q else Q false H1
def tOr(t u:TT):TT:=fun σ H Q=>t σ H λc H1=>if c=true then Q true H1 else u σ H1 Q
def acI(t:TT):TT:=fun σ H Q=>t σ H λc H1=>Q (!c) H1
theorem nG(ha:PT X a tA):PW X (.BoolOp .And [a] pos) tA:=by
 intro wh ao s σ H Q I h;refine isTrue_and (c9 (ha ao s σ H Q I h) λc s1 e=>?_)
 cases c with
 | true=>exact isTrue_and_nil e
 | false=>exact e
theorem G3(ha:PT X a tA):PW X (.BoolOp .Or [a] pos) tA:=by
 intro wh ao s σ H Q I h;refine isTrue_or (c9 (ha ao s σ H Q I h) λc s1 e=>?_)
 cases c with
 | false=>exact isTrue_or_nil e
 | true=>exact e
theorem qR(ha:PT X a tA)(hb:PW X (.BoolOp .And (b::vh) pos) tB'):PW X (.BoolOp .And (a::b::vh) pos) (acH tA tB'):=by
 intro wh ao s σ H Q I h;refine isTrue_and (c9 (ha ao s σ H _ I h) λc s1 CM=>?_);obtain⟨H1,I1,q1⟩:=CM
 cases c with
 | true=>exact hb wh ao s1 σ H1 Q I1 q1
 | false=>exact⟨H1,I1,q1⟩
theorem JI(ha:PT X a tA)(hb:PW X (.BoolOp .Or (b::vh) pos) tB'):PW X (.BoolOp .Or (a::b::vh) pos) (tOr tA tB'):=by
 intro wh ao s σ H Q I h;refine isTrue_or (c9 (ha ao s σ H _ I h) λc s1 G4=>?_);obtain⟨H1,I1,q1⟩:=G4
 cases c with
 | true=>exact⟨H1,I1,q1⟩
 | false=>exact hb wh ao s1 σ H1 Q I1 q1
theorem mG(ha:PT X a tA):PT X (.UnaryOp .Not a pos) (acI tA):=by
 intro ao s σ H Q I h;exact isTrue_not (ha ao s σ H (λc H1=>Q (!c) H1) I h)
def YA(ta tb:TE):TE:=fun σ H Q=>ta σ H λx H1=>isB x H1 λc H1=>if c=true then tb σ H1 Q else Q (.bl false) H1
def YB(ta:TE):TE:=fun σ H Q=>ta σ H λx H1=>isB x H1 λc H1=>Q (.bl (!c)) H1
theorem qS{op}{t:TE}(h:PE X a t):PE X (.BoolOp op [a] pos) t:=λao s σ H Q I hw=>BoolOp_one (h ao s σ H Q I hw)
theorem pC(ha:PE X a ta)(hb:PE X (.BoolOp .And (b::vh) pos) tb):PE X (.BoolOp .And (a::b::vh) pos) (YA ta tb):=by
 intro ao s σ H Q I h;refine BoolOp_and (c9 (ha ao s σ H _ I h) λv s1 G5=>?_);obtain⟨x,H1,I1,r1,q1⟩:=G5;obtain⟨c,rfl,q1⟩:=q1;cases r1;refine wpAny_truthy_bool ?_
 cases c with
 | true=>exact hb ao s1 σ H1 Q I1 q1
 | false=>exact⟨.bl false,H1,I1,rfl,q1⟩
theorem Vm(ha:PE X a ta):PE X (.UnaryOp .Not a pos) (YB ta):=by
 intro ao s σ H Q I h;refine UnaryOp_ (c9 (ha ao s σ H _ I h) λv s1 G6=>?_);obtain⟨x,H1,I1,r1,q1⟩:=G6;obtain⟨c,rfl,q1⟩:=q1;cases r1;exact not_of (wpAny_truthy_bool ⟨.bl (!c),H1,I1,rfl,q1⟩)
def tIf(t:TT)(ta tb:TE):TE:=fun σ H Q=>t σ H λc H1=>if c=true then ta σ H1 Q else tb σ H1 Q
theorem Nj{c:Expr}(hc:PT X c tA)(ha:PE X a ta)(hb:PE X b tb):PE X (.IfExp c a b pos) (tIf tA ta tb):=by
 intro ao s σ H Q I h;refine wpAny_IfExp (c9 (hc ao s σ H _ I h) λd s1 AR=>?_);obtain⟨H1,I1,q1⟩:=AR
 cases d with
 | true=>exact ha ao s1 σ H1 Q I1 q1
 | false=>exact hb ao s1 σ H1 Q I1 q1
end
end L2
namespace L2
open Spec Rows
def bI(K:Frag)(H:Hp)(a:Addr)(xs:List V):Prop :=
 Rd H a (.lst xs)\/
  ∃ (o:Obj) (aL:Array Value) (n:Nat),K.lookup a=some o/\o.cls=.type "list"/\o.dict=none/\o.data=.seq aL n/\aL.size<=sizeLine/\cA xs aL.toList
def cY(K:Frag)(H:Hp)(a:Addr)(xs:List V):Prop :=
 Rd H a (.tup xs)\/
  ∃ (o:Obj) (aL:Array Value) (n:Nat),K.lookup a=some o/\o.cls=.type "tuple"/\o.data=.seq aL n/\aL.size<=sizeLine/\cA xs aL.toList
def acJ:Value->Option V
 | .none=>some .gm
 | .bool b=>some (.bl b)
 | .int i _=>some (.int i)
 | .str x _=>some (.str x)
 | .bytes b _=>some (.G2 b)
 | .float b _=>some (.TY b)
 | .ref a=>some (.ref a)
 | .type n=>some (.ty n)
 | _=>none
theorem RelV.abs{x:V}{u:Value}(r:RelV x u):acJ u=some x:=by
 cases x with
 | gm=>cases r;rfl
 | bl _=>cases r;rfl
 | int _=>obtain⟨t,rfl⟩:=r;rfl
 | str _=>obtain⟨t,rfl⟩:=r;rfl
 | G2 _=>obtain⟨t,rfl⟩:=r;rfl
 | TY _=>obtain⟨t,rfl⟩:=r;rfl
 | ref _=>cases r;rfl
 | ty _=>cases r;rfl
theorem RelV.inj{x y:V}{u:Value}(r:RelV x u)(q:RelV y u):x=y:=qP (r.abs.symm.trans q.abs)
theorem cA.inj:∀ {xs ys:List V} {us:List Value},cA xs us->cA ys us->xs=ys
 | _,_,_,.nil,.nil=>rfl
 | _,_,_,.cons r t,.cons r' t'=>by rw[r.inj r',cA.inj t t']
section
variable {X:Cx} {ao:List (Addr × Obj)} {σ:St} {H:Hp} {s:Shared} {a:Addr} {xs ys:List V}
theorem bI.of{K:Frag}(h:H a=some (.lst xs)):bI K H a xs:=.inl (.inl h)
theorem cY.of{K:Frag}(h:H a=some (.tup xs)):cY K H a xs:=.inl (.inl h)
theorem Inv.list(I:Inv X ao σ H s)(h:bI X.K H a xs):∃ aL:List Value,cA xs aL/\PlainL s.heap a aL.toArray/\xs.length<=sizeLine:=by
 rcases h with h|⟨o,aL,n,hk,hc,hd,hs,hz,r⟩
 ·obtain⟨z,aL,n,r,e⟩:=h.ok I.hok;exact⟨aL,r,⟨_,n,e,V,rfl⟩,z⟩
 ·refine⟨aL.toList,r,⟨o,n,I.xR a o hk,hc,hd,by simpa using hs⟩,?_⟩;have e:=r.length;simp only[Array.length_toList]at e;lia
theorem Inv.tuple(I:Inv X ao σ H s)(h:cY X.K H a xs):∃ aL:List Value,cA xs aL/\IsTup s.heap a aL.toArray/\xs.length<=sizeLine:=by
 rcases h with h|⟨o,aL,n,hk,hc,hs,hz,r⟩
 ·obtain⟨z,aL,r,p⟩:=h.ok I.hok;exact⟨aL,r,p,z⟩
 ·refine⟨aL.toList,r,⟨o,I.xR a o hk,hc,n,by simpa using hs⟩,?_⟩;have e:=r.length;simp only[Array.length_toList]at e;lia
theorem Inv.EG(I:Inv X ao σ H s)(h:bI X.K H a xs)(h':bI X.K H a ys):xs=ys:=by
 obtain⟨aL,r,⟨o,n,e,_,_,d⟩,_⟩:=I.list h;obtain⟨its',r',⟨o',n',e',_,_,d'⟩,_⟩:=I.list h';rw[e]at e';cases e';rw[d]at d';injection d' with d1 _;have:aL=its':=by simpa using congrArg Array.toList d1
 subst this;exact r.inj r'
theorem Inv.BC(I:Inv X ao σ H s)(h:cY X.K H a xs)(h':cY X.K H a ys):xs=ys:=by
 obtain⟨aL,r,⟨o,e,_,n,d⟩,_⟩:=I.tuple h;obtain⟨its',r',⟨o',e',_,n',d'⟩,_⟩:=I.tuple h';rw[e]at e';cases e';rw[d]at d';injection d' with d1 _;have:aL=its':=by simpa using congrArg Array.toList d1
 subst this;exact r.inj r'
end
abbrev Cx.AS(X:Cx)(E:Value->Shared->Prop):Cx:={ X with xe:=E }
abbrev Cx.KS(X:Cx):Cx:=X.AS λ_ _=>False
theorem Cx.Ok.AS{X:Cx}(ok:X.Ok)(E:Value->Shared->Prop):(X.AS E).Ok :=
 ⟨ok.mod,ok.kind,ok.glob,ok.blt,ok.above,ok.inj,ok.has,ok.Yv,ok.hd,ok.frames,ok.stk,ok.exf,ok.bs,ok.T3,ok.Ng,ok.QM,ok.yv,ok.Vg⟩
theorem Cx.Ok.qT{X:Cx}{E:Value->Shared->Prop}(ok:(X.AS E).Ok):X.Ok :=
 ⟨ok.mod,ok.kind,ok.glob,ok.blt,ok.above,ok.inj,ok.has,ok.Yv,ok.hd,ok.frames,ok.stk,ok.exf,ok.bs,ok.T3,ok.Ng,ok.QM,ok.yv,ok.Vg⟩
section
variable {X:Cx} {ao:List (Addr × Obj)} {σ:St} {H:Hp} {s:Shared} {E:Value->Shared->Prop}
theorem Inv.AS(I:Inv X ao σ H s)(E:Value->Shared->Prop):Inv (X.AS E) ao σ H s:=⟨I.ok.AS E,I.os,I.bare,I.zt,I.loc,I.cell,I.free,I.tL,I.pin,I.hok,I.len⟩
theorem Inv.qT(I:Inv (X.AS E) ao σ H s):Inv X ao σ H s:=⟨I.ok.qT,I.os,I.bare,I.zt,I.loc,I.cell,I.free,I.tL,I.pin,I.hok,I.len⟩
theorem SP.qT{D:Ends}{f:Flow}{s':Shared}(h:SP (X.AS E) ao D f s'):SP X ao D f s':=by
 cases f with
 | next=>obtain⟨σ',H',I,q⟩:=h;exact⟨σ',H',I.qT,q⟩
 | brk=>obtain⟨σ',H',I,q⟩:=h;exact⟨σ',H',I.qT,q⟩
 | cont=>obtain⟨σ',H',I,q⟩:=h;exact⟨σ',H',I.qT,q⟩
 | ret u=>obtain⟨v,σ',H',I,r,q⟩:=h;exact⟨v,σ',H',I.qT,r,q⟩
theorem JG.KS{st:List Stmt}{t:TS}(h:JG X.KS st t):JG X st t:=λao s σ H D I hw =>
 wpAny_mono (h ao s σ H D (I.AS _) hw) (λ_ _ q=>q.qT) λ_ _ z=>False.elim z
end
section
variable {X:Cx} {st:Stmt} {vh:List Stmt} {t u:TS} {e:Expr} {te:TE} {pos:Pos}
def YC:TS:=λD σ H=>D.nx σ H
def acK(t u:TS):TS:=λD σ H=>t { D with nx:=u D } σ H
theorem bf:JG X [] YC:=λ_ _ σ H _ I h=>wpAny_execs_nil ⟨σ,H,I,h⟩
theorem aj(h1:PS X st t)(h2:JG X vh u):JG X (st::vh) (acK t u):=by
 intro ao s σ H D I h;refine wpAny_execs_cons (c9 (h1 ao s σ H { D with nx:=u D } I h) λf s1 q=>?_)
 cases f with
 | next =>
  obtain⟨σ',H',I',q⟩:=q;exact h2 ao s1 σ' H' D I' q
 | ret v=>exact q
 | brk=>exact q
 | cont=>exact q
theorem au(h1:PS X st t):JG X [st] t:=by
 intro ao s σ H D I h;refine wpAny_execs_cons (c9 (h1 ao s σ H D I h) λf s1 q=>?_)
 cases f with
 | next=>exact wpAny_execs_nil q
 | ret v=>exact q
 | brk=>exact q
 | cont=>exact q
def YD:TS:=λD σ H=>D.ct σ H
theorem EH:PS X (.Continue pos) YD:=λ_ _ σ H _ I h=>wpAny_Continue ⟨σ,H,I,h⟩
theorem Inv.quiet{σ:St}{H:Hp}{s:Shared}(I:Inv X ao σ H s):interactive X.env=false:=by simp[interactive,I.ok.kind]
def YE(te:TE):TS:=λD σ H=>te σ H λ_ H1=>D.nx σ H1
theorem aT(he:PE X e te)(hs:swapsWith e none pos.line X.env=pure false:=by rfl):PS X (.Expr e pos) (YE te):=by
 intro ao s σ H D I h;exact wpAny_Expr_any (c9 (he ao s σ H _ I h) λv s1 ⟨x,H1,I1,r1,q1⟩=>⟨σ,H1,I1,q1⟩) I.quiet hs
def acL(te:TE):TS:=λD σ H=>te σ H D.rt
theorem aN(he:PE X e te):PS X (.Return (some e) pos) (acL te):=by
 intro ao s σ H D I h;exact wpAny_Return_some (c9 (he ao s σ H _ I h) λv s1 ⟨x,H1,I1,r1,q1⟩=>⟨x,σ,H1,I1,r1,q1⟩)
def acM(c:TT)(t u:TS):TS:=λD σ H=>c σ H λb H1=>if b=true then t D σ H1 else u D σ H1
theorem bP{c:Expr}{a b:List Stmt}{tc:TT}(hc:PT X c tc)(ha:JG X a t)(hb:JG X b u):PS X (.If c a b pos) (acM tc t u):=by
 intro ao s σ H D I h;refine wpAny_If (c9 (hc ao s σ H _ I h) λd s1 EF=>?_);obtain⟨H1,I1,q1⟩:=EF
 cases d with
 | true=>exact ha ao s1 σ H1 D I1 q1
 | false=>exact hb ao s1 σ H1 D I1 q1
def Vn:TS:=λ_ _ _=>False
theorem jw:PS X st Vn:=λ_ _ _ _ _ _ h=>h.elim
end
abbrev TG:=V->St->Hp->(St->Hp->Prop)->Prop
abbrev Vo:=List V->St->Hp->(St->Hp->Prop)->Prop
def PG(X:Cx)(wJ:Expr)(t:TG):Prop :=
 ∀ (ao:List (Addr × Obj)) (s:Shared) (σ:St) (H:Hp) (v:V) (u:Value) (Q:St->Hp->Prop),Inv X ao σ H s->RelV v u->t v σ H Q->
  wpAny (model X.prog X.w) X.A (assign wJ X.env u) (λ_ s'=>∃ σ' H',Inv X ao σ' H' s'/\Q σ' H') X.xe s
def YF(X:Cx)(ts:List Expr)(t:Vo):Prop :=
 ∀ (ao:List (Addr × Obj)) (s:Shared) (σ:St) (H:Hp) (vs:List V) (us:List Value) (Q:St->Hp->Prop),Inv X ao σ H s->cA vs us->t vs σ H Q->
  wpAny (model X.prog X.w) X.A (assignInOrder ((assignEach ts X.env).map (·.2)) us) (λ_ s'=>∃ σ' H',Inv X ao σ' H' s'/\Q σ' H') X.xe s
abbrev Vp:=V->V->V->Hp->(Hp->Prop)->Prop
def YG(X:Cx)(t:Vp):Prop :=
 ∀ (ao:List (Addr × Obj)) (s:Shared) (σ:St) (H:Hp) (o i v:V) (ov iv u:Value) (Q:Hp->Prop),Inv X ao σ H s->RelV o ov->RelV i iv->RelV v u->t o i v H Q->
  wpAny (model X.prog X.w) X.A (setItem ov iv u) (λ_ s'=>∃ H',Inv X ao σ H' s'/\Q H') X.xe s
abbrev TIp:=V->V->Hp->VK->Prop
def PIp(X:Cx)(op:Operator)(t:TIp):Prop :=
 ∀ (ao:List (Addr × Obj)) (s:Shared) (σ:St) (H:Hp) (x y:V) (v u:Value) (Q:VK),Inv X ao σ H s->RelV x v->RelV y u->t x y H Q->
  wpAny (model X.prog X.w) X.A (inplaceOp op v u) (EP X ao σ Q) X.xe s
section
variable {X:Cx} {pos:Pos}
def tM(i:Nat):TG:=λv σ H Q=>Q (σ.set i (some v)) H
theorem QS{i:Nat}{x:Str}(hN:X.N.Nodup)(hi:X.N[i]?=some x)(hx:Loc X.env.scope x)(hf:X.fn x=true\/X.env.scope.names.lookup x=some .local:=by first|exact .inl rfl|exact .inr rfl|assumption):PG X (.Name x pos) (tM i):=by
 intro ao s σ H v u Q I r h;exact wpAny_assign_Name (zd I hN hi hx r (λs' I'=>⟨_,H,I',h⟩) hf)
def acO:Vo:=λvs σ H Q=>vs=[]/\Q σ H
inductive YH(t:TG)(u:Vo)(vs:List V)(σ:St)(H:Hp)(Q:St->Hp->Prop):Prop
 | mk (v:V) (r:List V) (_:vs=v::r) (_:t v σ H fun σ' H'=>u r σ' H' Q)
theorem gC:YF X [] acO:=by
 intro ao s σ H vs us Q I r h;obtain⟨e,h⟩:=h;subst e;cases r;exact assignInOrder_nil ⟨σ,H,I,h⟩
theorem bT{e:Expr}{es:List Expr}{t:TG}{u:Vo}(h1:PG X e t)(h2:YF X es u)
  (hs:(assignEach (e::es) X.env).map (·.2)=assign e X.env::(assignEach es X.env).map (·.2):=by rfl):YF X (e::es) (YH t u):=by
 intro ao s σ H vs us Q I r h;obtain⟨v,vr,e1,h⟩:=h;subst e1
 cases r with
 | cons r rr =>
  rw[hs];refine assignInOrder_cons (c9 (h1 ao s σ H _ _ _ I r h) λ_ s1 CM=>?_);obtain⟨σ1,H1,I1,q1⟩:=CM;exact h2 ao s1 σ1 H1 _ _ Q I1 rr q1
inductive Vq(K:Frag)(n:Nat)(t:Vo)(v:V)(σ:St)(H:Hp)(Q:St->Hp->Prop):Prop
 | mk (a:Addr) (xs:List V) (_:v=.ref a) (_:cY K H a xs) (_:xs.length=n) (_:t xs σ H Q):Vq K n t v σ H Q
theorem kY{es:List Expr}{k:Nat}{t:Vo}{n:Nat}(hc:X.calm=true)(h:YF X es t)
  (hn:(assignEach es X.env).length=n:=by rfl) (CN:(assignEach es X.env).findIdx? (·.1)=none:=by rfl):PG X (.Tuple es k pos) (Vq X.K n t):=by
 intro ao s σ H v u Q I r hw;obtain⟨a,xs,e1,hq,hl,hw⟩:=hw;subst e1;cases r;obtain⟨aL,rv,ht,hz⟩:=I.tuple hq;refine assign_Tuple_tuple (I.ok.hd hc) ht (by simp[hn,← hl,rv.length]) CN λh' hx=>?_;have I1:Inv X ao σ H { s with heap:=h' }:=I.kept (t':=s.toks) λb o e=>hx b o (jS (Heap.lt_size e)) e;exact h ao _ σ H xs _ Q I1 (by simpa using rv) hw
def acP(to ti:TE)(t:Vp):TG:=λv σ H Q=>to σ H λo H1=>ti σ H1 λi H2=>t o i v H2 λH3=>Q σ H3
theorem pD{i:Expr}{to ti:TE}{t:Vp}(ho:PE X o to)(hi:PE X i ti)(hs:YG X t)
  (ha:∀ v,assign (.Subscript o i pos) X.env v=(do
   let ov ← holding [v] (eval o X.env)
   let iv ← holding [v,ov] (eval i X.env)
   standAt pos
   holding [v,ov,iv] (setItem ov iv v)
   release [v,ov,iv] []):=by intro _;rfl):PG X (.Subscript o i pos) (acP to ti t):=by
 intro ao s σ H v u Q I r h;rw[ha];refine wpAny_bind (wpAny_holding (c9 (ho ao s σ H _ I h) λov s1 G4=>?_));obtain⟨x,H1,I1,r1,q1⟩:=G4;refine wpAny_bind (wpAny_holding (c9 (hi ao s1 σ H1 _ I1 q1) λiv s2 G5=>?_));obtain⟨y,H2,I2,r2,q2⟩:=G5;refine wpAny_bind (wpAny_standAt (wpAny_bind (wpAny_holding (c9 (hs ao s2 σ H2 x y v ov iv u _ I2 r1 r2 r q2) λ_ s3 G7=>?_))));obtain⟨H3,I3,q3⟩:=G7;exact wpAny_release ⟨σ,H3,I3,q3⟩
def Nk(te:TE)(g:TG):TS:=λD σ H=>te σ H λx H1=>g x σ H1 D.nx
theorem mH{e:Expr}{te:TE}{g:TG}(he:PE X e te)(hg:PG X tg g)(hs:swapsWithSole [tg] e pos.line X.env=pure false:=by rfl)(hw:swappedStores [tg] e X.env=pure none:=by rfl)
  (h1:(assignEach [tg] X.env).map (·.2)=[assign tg X.env]:=by rfl):PS X (.Assign [tg] e pos) (Nk te g):=by
 intro ao s σ H D I h;refine wpAny_Assign_stores (c9 (he ao s σ H _ I h) λv s1 ⟨x,H1,I1,r1,q1⟩=>?_) hs hw;rw[h1];exact c9 (hg ao s1 σ H1 x v _ I1 r1 q1) λ_ s2 q=>q
theorem Vr{i:Nat}{x:Str}{e:Expr}{te:TE}(hN:X.N.Nodup)(hi:X.N[i]?=some x)(hx:Loc X.env.scope x)(he:PE X e te)(hs:swapsWith e (some (.Name x iU)) pos.line X.env=pure false:=by rfl)(hf:X.fn x=true\/X.env.scope.names.lookup x=some .local:=by first|exact .inl rfl|exact .inr rfl|assumption) :
  PS X (.Assign [.Name x iU] e pos) (Nk te (tM i)):=by
 intro ao s σ H D I h;refine wpAny_Assign_Name (c9 (he ao s σ H _ I h) λv s1 ⟨y,H1,I1,r1,q1⟩=>?_) hs;exact zd I1 hN hi hx r1 (λs2 I2=>⟨_,H1,I2,q1⟩) hf
def acQ(i:Nat)(te:TE)(ti:TIp):TS:=λD σ H=>∃ x,σ[i]?=some (some x)/\te σ H λy H1=>ti x y H1 λz H2=>D.nx (σ.set i (some z)) H2
theorem qU{i:Nat}{x:Str}{e:Expr}{te:TE}{op:Operator}{ti:TIp}{iU:Pos}(hN:X.N.Nodup)(hi:X.N[i]?=some x)(hx:Loc X.env.scope x)(he:PE X e te)(ho:PIp X op ti)(hf:X.fn x=true\/X.env.scope.names.lookup x=some .local:=by first|exact .inl rfl|exact .inr rfl|assumption) :
  PS X (.AugAssign (.Name x iU) op e pos) (acQ i te ti):=by
 intro ao s σ H D I h;obtain⟨v,e1,h⟩:=h;obtain⟨m,hn,hl⟩:=I.loc;have vis:Vis X.env.scope x:=by rcases hx with k|k;exact .inl k;exact .inr (.inl k)
 obtain⟨u,r,l⟩:=hl i x v hi e1 vis;refine wpAny_AugAssign_Name ?_
 have go:wpAny (model X.prog X.w) X.A (eval e X.env) (λw s₂=>wpAny (model X.prog X.w) X.A (inplaceOp op u w) (λr s₃=>wpAny (model X.prog X.w) X.A (storeName X.env x r) (λ_=>SP X ao D .next) X.xe s₃) X.xe s₂) X.xe s:=by
  refine c9 (he ao s σ H _ I h) λw s1 AR=>?_;obtain⟨y,H1,I1,r1,q1⟩:=AR;refine c9 (ho ao s1 σ H1 v y u w _ I1 r r1 q1) λz s2 EF=>?_;obtain⟨zv,H2,I2,r2,q2⟩:=EF;exact zd I2 hN hi hx r2 (λs3 I3=>⟨_,H2,I3,q2⟩) hf
 rcases l with ⟨hk,hm⟩|⟨hk,c,hc,hcell⟩
 ·exact wpAny_loadName_local I.ok.kind hk hn hm go
 ·rcases hk with hk|hk
  ·exact wpAny_loadName_cell I.ok.kind hk hc hcell go
  ·rcases hx with k|k
   ·have:X.env.scope.names.lookup x=some .free:=hk;rw[k]at this;cases this
   ·have:X.env.scope.names.lookup x=some .free:=hk;rw[k]at this;cases this
def ipI(f:Int->Int->Int):TIp:=λx y H Q=>∃ i j,x=.int i/\y=.int j/\Q (.int (f i j)) H
theorem Nl:PIp X .Add (ipI λi j=>i+j):=by
 intro ao s σ H x y v u Q I r1 r2 h;obtain⟨i,j,e1,e2,q⟩:=h;subst e1;subst e2;obtain⟨t,rfl⟩:=r1;obtain⟨t',rfl⟩:=r2;exact iadd_int ⟨.int _,H,I.tok _,⟨Y⟩,q⟩
end
section
variable {X:Cx} {pos:Pos}
def Vs(c:TT)(tb:TS):TS:=λD σ H=>∃ W:Nat->St->Hp->Prop,(∃ m,W m σ H)/\∀ m σ H,W m σ H->
 c σ H λb H1=>if b=true then ∃ N:St->Hp->Prop,(∀ σ' H',N σ' H'->∃ m',m'<m/\W m' σ' H')/\tb { D with nx:=N,ct:=N,bk:=D.nx } σ H1 else D.nx σ H1
theorem qV{c:Expr}{tc:TT}{tb:TS}(hp:PassesOwn (model X.prog X.w) X.A X.env X.xe)(hc:PT X c tc)(hb:JG X body tb):PS X (.While c body [] pos) (Vs tc tb):=by
 intro ao s σ H D I h;obtain⟨W,⟨m0,w0⟩,pF⟩:=h;refine wpAny_While (codeAny_whileLoop (λn s'=>∃ σ' H',Inv X ao σ' H' s'/\W n σ' H') ?_ m0 ⟨σ,H,I,w0⟩);rintro n s1 ⟨σ1,H1,I1,w1⟩;refine wpAny_passesOwn hp (c9 (hc ao s1 σ1 H1 _ I1 (pF n σ1 H1 w1)) λb s2 G6=>?_);obtain⟨H2,I2,q2⟩:=G6
 cases b with
 | true =>
  obtain⟨N,hN,q2⟩:=q2;rw[if_pos rfl];refine wpAny_passesOwn hp (c9 (hb ao s2 σ1 H2 _ I2 q2) λf s3 q3=>?_)
  cases f with
  | next =>
   obtain⟨σ3,H3,I3,n3⟩:=q3;obtain⟨m',hm,w3⟩:=hN σ3 H3 n3;exact⟨m',hm,σ3,H3,I3,w3⟩
  | cont =>
   obtain⟨σ3,H3,I3,n3⟩:=q3;obtain⟨m',hm,w3⟩:=hN σ3 H3 n3;exact⟨m',hm,σ3,H3,I3,w3⟩
  | brk=>exact q3
  | ret v=>exact q3
 | false =>
  rw[if_neg gf];exact wpAny_execs_nil ⟨σ1,H2,I2,q2⟩
end
structure It where
 go:Nat->Hp->Prop
 Qx:Nat->Hp->V->Hp->Prop
 stop:Nat->Hp->Prop
def qF(X:Cx)(ao:List (Addr × Obj))(H:Hp)(b:Addr):Prop :=
 H b=none/\b≠X.env.locals/\b∉X.fs/\(b∈X.ex\/X.s₀.heap.objs.size<=b)/\(∀ x c,X.env.cells.lookup x=some c->c≠b)/\∀ p∈X.pn++ao,p.1≠b
theorem Inv.Nm{X:Cx}{σ:St}{H H':Hp}{s:Shared}{b:Addr}(I:Inv X ao σ H s)(hb:s.heap.objs.size<=b)(hn:H' b=none):qF X ao H' b:=by
 refine⟨hn,Nat.ne_of_gt (qN I.lt hb),I.acC hb,.inr (gR I.sz hb),λx c e z=>?_,λp hp z=>?_⟩
 ·obtain⟨v,q⟩:=I.cell x c e;exact absurd (qN q.lt (by rw[z];exact hb)) (Nat.lt_irrefl _)
 ·exact absurd (qN (Heap.lt_size (I.pin p hp).1) (by rw[z];exact hb)) (Nat.lt_irrefl _)
structure KU(P:Program)(w:World)(K:Frag)(tg:Expr)(J:It)(fp:List Addr)(it:Addr)(tn:Nat->Heap->Prop):Prop where
 mem:it∈fp
 obj:∀ i h,tn i h->∀ b∈fp,∃ o,h.get? b=some o/\∀ v,o.data≠.cell v
 keep:∀ i h h',tn i h->(∀ b∈fp,∀ o,h.get? b=some o->h'.get? b=some o)->tn i h'
 item:∀ (X:Cx),X.prog=P->X.w=w->X.K=K->X.calm=true->∀ (i:Nat) (ao:List (Addr × Obj)) (s:Shared) (σ:St) (H:Hp) (E:Value->Shared->Prop),Inv X ao σ H s->(∀ b∈fp,qF X ao H b)->tn i s.heap->J.go i H->
  wpAny (model P w) X.A (pyNext (.ref it)) (λr s1=>∃ u,r=some u/\
   wpAny (model P w) X.A (letOwnedTupleGo tg (.ref it) u) (λ_ s2=>∃ x H',Inv X ao σ H' s2/\RelV x u/\J.Qx i H x H'/\tn (i+1) s2.heap/\∀ b∈fp,H' b=none) E s1) E s
 done:∀ (X:Cx),X.prog=P->X.w=w->X.K=K->X.calm=true->∀ (i:Nat) (ao:List (Addr × Obj)) (s:Shared) (σ:St) (H:Hp) (E:Value->Shared->Prop),Inv X ao σ H s->(∀ b∈fp,qF X ao H b)->tn i s.heap->J.stop i H->
  wpAny (model P w) X.A (pyNext (.ref it)) (λr s1=>r=none/\Inv X ao σ H s1) E s
 self:∀ (A:Around) (i:Nat) (s:Shared) (Q:Value->Shared->Prop) (E:Value->Shared->Prop),tn i s.heap->Q (.ref it) s->wpAny (model P w) A (pyIter (.ref it)) Q E s
abbrev TI:=St->Hp->(It->Hp->Prop)->Prop
def PIE(X:Cx)(ao:List (Addr × Obj))(σ:St)(tg:Expr)(R:It->Hp->Prop)(YI:Value)(s2:Shared):Prop :=
 ∃ (it:Addr) (fp:List Addr) (tn:Nat->Heap->Prop) (J:It) (H':Hp),YI=.ref it/\Inv X ao σ H' s2/\KU X.prog X.w X.K tg J fp it tn/\tn 0 s2.heap/\(∀ b∈fp,qF X ao H' b)/\R J H'
def PI(X:Cx)(tg iter:Expr)(wi:TI):Prop :=
 ∀ (ao:List (Addr × Obj)) (s:Shared) (σ:St) (H:Hp) (R:It->Hp->Prop),Inv X ao σ H s->wi σ H R->
  wpAny (model X.prog X.w) X.A (eval iter X.env) (λv s1=>wpAny (model X.prog X.w) X.A (pyIter v) (PIE X ao σ tg R) X.xe s1) X.xe s
theorem JJ{M:Model}{A:Around}{E:Value->Shared->Prop}{s:Shared}{it:Addr}{u:Value}{o:Obj}{n:String}{vs:Array Value}{Q:Unit->Shared->Prop}(ho:s.heap.get? it=some o)(hc:o.cls=.type n)(hd:o.data=.fields vs)
  (hn:["enumerate","zip","dict_itemiterator","dict_reverseitemiterator","odict_iterator","itertools.zip_longest","itertools.pairwise"].contains n=false) (hQ:Q () s):wpAny M A (letOwnedTupleGo tg (.ref it) u) Q E s:=by
 unfold letOwnedTupleGo
 cases tg <;> first
  | exact wpAny_pure hQ
  | (cases u <;> first
    | exact wpAny_pure hQ
    | (refine wpAny_bind (wpAny_load ho ?_);rw[hc,hd];show wpAny M A (if (["enumerate","zip","dict_itemiterator","dict_reverseitemiterator","odict_iterator","itertools.zip_longest","itertools.pairwise"].contains n&&vs[0]? == some (rawInt _))=true then _ else _) Q E s;rw[if_neg (by intro h;rw[hn,Bool.false_and]at h;cases h)];exact wpAny_pure hQ))
def Qy(K:Frag)(a:Addr):It :=
 ⟨λi H=>∃ xs x,bI K H a xs/\xs[i]?=some x,λi H x H'=>H'=H/\∀ xs,bI K H a xs->xs[i]?=some x,λi H=>∃ xs,bI K H a xs/\xs.length<=i⟩
def YJ(K:Frag)(a:Addr):It :=
 ⟨λi H=>∃ xs x,cY K H a xs/\xs[i]?=some x,λi H x H'=>H'=H/\∀ xs,cY K H a xs->xs[i]?=some x,λi H=>∃ xs,cY K H a xs/\xs.length<=i⟩
def Vt(lo:Int)(n:Nat):It:=⟨λi _=>i<n,λi H x H'=>H'=H/\x=.int (lo+i),λi _=>n<=i⟩
theorem KW{P:Program}{w:World}{K:Frag}(a it:Addr):KU P w K tg (Qy K a) [it] it (λi h=>h.IsListIter it a i) where
 mem:=by simp
 obj:=λi h st b hb=>by
  have e:b=it:=by simpa using hb
  subst e;obtain⟨o,e,c,d⟩:=st;exact⟨o,e,λv z=>by rw[d]at z;cases z⟩
 keep:=λi h h' st k=>st.at λo e=>k it (by simp) o e
 item:=by
  intro X hP hw hK hc i ao s σ H E I hf st hg;subst hP hw hK;obtain⟨xs,x,hq,hx⟩:=hg;obtain⟨aL,rv,p,hz⟩:=I.list hq;obtain⟨u,hu,ru⟩:=rv.get hx;obtain⟨f0,f1,f2,f3,f4,f5⟩:=hf it (by simp);refine wpAny_pyNext_list_item st p.isList (x:=u) (by simpa using hu) λh' Eo sb=>?_;have I1:Inv X ao σ H { s with heap:=h' }:=I.turned (t':=s.toks) (λb o hb e=>(sb.2 b hb).trans e) f0 f1 f3 f4 f5;obtain⟨o,e,c,d⟩:=id Eo;exact⟨u,rfl,JJ (s:={ s with heap:=h' }) e c d (by decide) ⟨x,H,I1,ru,⟨rfl,λys hy=>by rw[I.EG hy hq];exact hx⟩,Eo,λb hb=>(hf b hb).1⟩⟩
 done:=by
  intro X hP hw hK hc i ao s σ H E I hf st hg;subst hP hw hK;obtain⟨xs,hq,hx⟩:=hg;obtain⟨aL,rv,p,hz⟩:=I.list hq;obtain⟨f0,f1,f2,f3,f4,f5⟩:=hf it (by simp);have hl:=rv.length;exact wpAny_pyNext_list_end (I.ok.hd hc) st p.isList (by simp;lia) λh' eb=>⟨rfl,I.turned (t':=s.toks) (λb o hb e=>eb b o hb e) f0 f1 f3 f4 f5⟩
 self:=λ_ _ _ _ _ st h=>wpAny_pyIter_listiter st h
theorem G8{P:Program}{w:World}{K:Frag}(a it:Addr):KU P w K tg (YJ K a) [it] it (λi h=>h.IsTupleIter it a i) where
 mem:=by simp
 obj:=λi h st b hb=>by
  have e:b=it:=by simpa using hb
  subst e;obtain⟨o,e,c,d⟩:=st;exact⟨o,e,λv z=>by rw[d]at z;cases z⟩
 keep:=λi h h' st k=>st.at λo e=>k it (by simp) o e
 item:=by
  intro X hP hw hK hc i ao s σ H E I hf st hg;subst hP hw hK;obtain⟨xs,x,hq,hx⟩:=hg;obtain⟨aL,rv,p,hz⟩:=I.tuple hq;obtain⟨u,hu,ru⟩:=rv.get hx;obtain⟨f0,f1,f2,f3,f4,f5⟩:=hf it (by simp);refine wpAny_pyNext_tuple_item st (show s.heap.IsTuple a aL.toArray from p) (x:=u) (by simpa using hu) λh' Eo sb=>?_;have I1:Inv X ao σ H { s with heap:=h' }:=I.turned (t':=s.toks) (λb o hb e=>(sb.2 b hb).trans e) f0 f1 f3 f4 f5;obtain⟨o,e,c,d⟩:=id Eo;exact⟨u,rfl,JJ (s:={ s with heap:=h' }) e c d (by decide) ⟨x,H,I1,ru,⟨rfl,λys hy=>by rw[I.BC hy hq];exact hx⟩,Eo,λb hb=>(hf b hb).1⟩⟩
 done:=by
  intro X hP hw hK hc i ao s σ H E I hf st hg;subst hP hw hK;obtain⟨xs,hq,hx⟩:=hg;obtain⟨aL,rv,p,hz⟩:=I.tuple hq;obtain⟨f0,f1,f2,f3,f4,f5⟩:=hf it (by simp);have hl:=rv.length;exact wpAny_pyNext_tuple_end (I.ok.hd hc) st (show s.heap.IsTuple a aL.toArray from p) (by simp;lia) λh' eb=>⟨rfl,I.turned (t':=s.toks) (λb o hb e=>eb b o hb e) f0 f1 f3 f4 f5⟩
 self:=λ_ _ _ _ _ st h=>wpAny_pyIter_tupleiter st h
theorem G9{P:Program}{w:World}{K:Frag}(it:Addr)(lo:Int)(n:Nat):KU P w K tg (Vt lo n) [it] it (λi h=>IsRangeIter h it (lo+(i:Nat)*1) ((n:Int)-(i:Nat)) 1) where
 mem:=by simp
 obj:=λi h st b hb=>by
  have e:b=it:=by simpa using hb
  subst e
  exact⟨_,st,λv z=>by
   have z':Data.fields _=Data.cell v:=z
   cases z'⟩
 keep:=λi h h' st k=>k it (by simp) _ st
 item:=by
  intro X hP hw hK hc i ao s σ H E I hf st hg;subst hP hw hK;obtain⟨f0,f1,f2,f3,f4,f5⟩:=hf it (by simp);have W:=Walks.range (prog:=X.prog) (w:=X.w) (I.ok.hd hc) it lo 1 n;refine W.item i s _ _ hg st λv h' tk hv Eo kk=>?_;obtain⟨t,rfl⟩:=hv;have I1:Inv X ao σ H { s with heap:=h',toks:=tk }:=I.turned (λb o hb e=>kk b o (by simpa using hb) e) f0 f1 f3 f4 f5;refine⟨Y,JJ (s:={ s with heap:=h',toks:=tk }) (n:="range_iterator") Eo rfl rfl (by decide) ⟨.int (lo+i),H,I1,⟨t,?_⟩,⟨V⟩,Eo,λb hb=>(hf b hb).1⟩⟩;rw[Int.mul_one]
 done:=by
  intro X hP hw hK hc i ao s σ H E I hf st hg;subst hP hw hK;obtain⟨f0,f1,f2,f3,f4,f5⟩:=hf it (by simp);exact wpAny_pyNext_range_end (I.ok.hd hc) st (by have:n<=i:=hg;lia) λh' eb=>⟨rfl,I.turned (t':=s.toks) (λb o hb e=>eb b o hb e) f0 f1 f3 f4 f5⟩
 self:=λ_ _ _ _ _ st h=>wpAny_pyIter_rangeiter st h
end L2
namespace L2
open Spec Rows
section
variable {X:Cx} {tg:Expr}
inductive isL(K:Frag)(x:V)(H:Hp)(R:It->Hp->Prop):Prop
 | mk (a:Addr) (_:x=.ref a) (_:∃ xs,bI K H a xs) (_:R (Qy K a) H)
def T6(K:Frag)(tl:TE):TI:=fun σ H R=>tl σ H λx H1=>isL K x H1 R
def acR(K:Frag)(tl:TE):TI:=fun σ H R=>tl σ H λx H1=>∃ a,x=.ref a/\(∃ xs,cY K H1 a xs)/\R (YJ K a) H1
theorem cF{l:Expr}{tl:TE}(hl:PE X l tl):PI X tg l (T6 X.K tl):=by
 intro ao s σ H R I h;refine c9 (hl ao s σ H _ I h) λv s1 AR=>?_;obtain⟨x,H1,I1,r1,q1⟩:=AR;obtain⟨a,e,⟨xs,hq⟩,q⟩:=q1;subst e;cases r1;obtain⟨aL,rv,p,hz⟩:=I1.list hq;refine wpAny_pyIter_list p.isList ?_;refine⟨s1.heap.objs.size,[s1.heap.objs.size],P,H1,rfl,I1.kept (t':=s1.toks) λb o e=>Heap.get?_push_of_some _ e,KW a _,⟨_,Heap.get?_push_size _ rfl,V⟩,λb hb=>?_,q⟩;have e:b=s1.heap.objs.size:=by simpa using hb
 subst e;exact I1.Nm (fH _) (I1.hok.fresh (fH _))
theorem Vu{l:Expr}{tl:TE}(hl:PE X l tl):PI X tg l (acR X.K tl):=by
 intro ao s σ H R I h;refine c9 (hl ao s σ H _ I h) λv s1 EF=>?_;obtain⟨x,H1,I1,r1,q1⟩:=EF;obtain⟨a,e,⟨xs,hq⟩,q⟩:=q1;subst e;cases r1;obtain⟨aL,rv,p,hz⟩:=I1.tuple hq;refine wpAny_pyIter_tuple (show s1.heap.IsTuple a aL.toArray from p) ?_;refine⟨s1.heap.objs.size,[s1.heap.objs.size],P,H1,rfl,I1.kept (t':=s1.toks) λb o e=>Heap.get?_push_of_some _ e,G8 a _,⟨_,Heap.get?_push_size _ rfl,V⟩,λb hb=>?_,q⟩;have e:b=s1.heap.objs.size:=by simpa using hb
 subst e;exact I1.Nm (fH _) (I1.hok.fresh (fH _))
theorem Nn{σ:St}{H:Hp}{s:Shared}{R:It->Hp->Prop}{E:Value->Shared->Prop}{lo hi:Int}{t u v:Tok}{tk:Nat}(I:Inv X ao σ H s)(h1:-(2^62)<=lo)(h2:lo<2^62)(h3:-(2^62)<=hi)(h4:hi<2^62)
  (q:R (Vt lo (hi-lo).toNat) H):wpAny (model X.prog X.w) X.A (pyIter (.ref s.heap.objs.size)) (PIE X ao σ tg R) E { s with heap:=s.heap.push { cls:=.type "range",data:=.fields #[.int lo t,.int hi u,.int 1 v] },toks:=tk }:=by
 refine wpAny_pyIter_range (IsRange.new ..) (small_one h1 h2 h3 h4) ?_;have I1:Inv X ao σ H { s with heap:=s.heap.push { cls:=.type "range",data:=.fields #[.int lo t,.int hi u,.int 1 v] },toks:=tk }:=I.kept λb o e=>Heap.get?_push_of_some _ e;refine⟨(s.heap.push { cls:=.type "range",data:=.fields #[.int lo t,.int hi u,.int 1 v] }).objs.size,[(s.heap.push { cls:=.type "range",data:=.fields #[.int lo t,.int hi u,.int 1 v] }).objs.size],P,H,rfl, I1.kept (t':=tk) λb o e=>Heap.get?_push_of_some _ e,G9 _ lo (hi-lo).toNat,?_,λb hb=>?_,q⟩
 ·have e1:lo+((0:Nat):Int)*1=lo:=by simp
  have e2:(((hi-lo).toNat:Nat):Int)-((0:Nat):Int)=Builtin.Range.rangeSize lo hi 1:=by rw[rangeSize_one];split <;> lia
  show IsRangeIter _ _ (lo+((0:Nat):Int)*1) ((((hi-lo).toNat:Nat):Int)-((0:Nat):Int)) 1;rw[e1,e2];exact Heap.get?_push_size _ rfl
 ·have e:b=(s.heap.push { cls:=.type "range",data:=.fields #[.int lo t,.int hi u,.int 1 v] }).objs.size:=by simpa using hb
  subst e;exact I1.Nm (fH _) (I1.hok.fresh (fH _))
inductive isR(vs:List V)(H:Hp)(R:It->Hp->Prop):Prop
 | mk (j:Int) (_:vs=[.int j]) (_:-(2^62)<=j) (_:j<2^62) (_:R (Vt 0 j.toNat) H)
def YK(ta:TA):TI:=fun σ H R=>ta σ H λvs H1=>isR vs H1 R
theorem gJ{a:Expr}{ta:TA}{p:Pos}(hg:Gl X "range")(hm:X.mg "range"=none)(ha:PA X [a] ta)(hs:starEach [a] X.env=[(false,eval a X.env)]:=by rfl):PI X tg (.Call (.Name "range" p) [a] [] pos) (YK ta):=by
 intro ao s σ H R I h;refine Call_ (zf I hg hm boot_range (PyProof.Rows.callWith_type1 (c9 (ha pos ao s σ H _ I h) λus s1 ⟨vs,H1,I1,r1,q1⟩=>?_) hs rfl));obtain⟨j,e,q1,q2,q⟩:=q1;subst e
 cases r1 with
 | cons r rr =>
  cases rr;obtain⟨t,rfl⟩:=r;exact call_range_1 (Nn I1 ∅ ∅ q1 q2 (by simpa using q))
def acS(wi:TI)(g:TG)(tb:TS):TS:=λD σ H=>wi σ H λJ H1=>∃ W:Nat->Nat->St->Hp->Prop,(∃ m,W 0 m σ H1)/\∀ i m σ H,W i m σ H->
 (J.stop i H/\D.nx σ H)\/(J.go i H/\∃ N:St->Hp->Prop,(∀ σ' H',N σ' H'->∃ m',m'<m/\W (i+1) m' σ' H')/\∀ x H',J.Qx i H x H'->g x σ H' fun σ2 H2=>tb { D with nx:=N,ct:=N,bk:=D.nx } σ2 H2)
def ud(fp:List Addr)(h:Heap):List (Addr × Obj):=fp.filterMap λb=>(h.get? b).map λo=>(b,o)
theorem gS{fp:List Addr}{h:Heap}{b:Addr}{o:Obj}(hb:b∈fp)(e:h.get? b=some o):(b,o)∈ud fp h:=List.mem_filterMap.mpr ⟨b,hb,by rw[e];rfl⟩
theorem KY{fp:List Addr}{h:Heap}{p:Addr × Obj}(hp:p∈ud fp h):p.1∈fp/\h.get? p.1=some p.2:=by
 obtain⟨b,hb,e⟩:=List.mem_filterMap.mp hp
 cases q:h.get? b with
 | none=>rw[q]at e;cases e
 | some o =>
  rw[q]at e;have e':(b,o)=p:=qP e;subst e';exact⟨hb,q⟩
theorem Inv.pinned{σ:St}{H:Hp}{s:Shared}{fp:List Addr}(I:Inv X ao σ H s)(hf:∀ b∈fp,qF X ao H b)(ho:∀ b∈fp,∃ o,s.heap.get? b=some o/\∀ v,o.data≠.cell v):Inv X (ao++ud fp s.heap) σ H s :=
 I.JE λp hp=>(List.mem_append.mp hp).elim (λz=>I.pin p (oN _ z)) λz=>by
  obtain⟨hb,e⟩:=KY z;obtain⟨f0,f1,f2,_⟩:=hf p.1 hb;obtain⟨o,e',d⟩:=ho p.1 hb;rw[e]at e';cases e';exact⟨e,f0,f1,f2,d⟩
theorem Inv.oO{pl:List (Addr × Obj)}{σ:St}{H:Hp}{s:Shared}(I:Inv X (ao++pl) σ H s):Inv X ao σ H s:=I.JE λp hp=>I.pin p (oN _ (qE _ hp))
theorem dN{iter:Expr}{wi:TI}{g:TG}{tb:TS}(hp:PassesOwn (model X.prog X.w) X.A X.env X.xe)(hc:X.calm=true)(hi:PI X tg iter wi)(hg:PG X tg g)(hb:JG X body tb)
  (hs:∀ x,foldedSetIterable iter X.env x=pure x:=by intro _;rfl):PS X (.For tg iter body [] pos) (acS wi g tb):=by
 intro ao s σ H D I h;refine wpAny_For (c9 (hi ao s σ H _ I h) λv s1 h1=>c9 h1 λYI s2 h2=>?_) hs;obtain⟨it,fp,tn,J,H2,e,I2,T,st2,f2,W,⟨m0,w0⟩,pF⟩:=h2;subst e;have ue:∀ {H':Hp},(∀ b∈fp,H' b=none)->∀ b∈fp,qF X ao H' b:=λhn b hb=>⟨hn b hb,(f2 b hb).2⟩;refine codeAny_forLoop_any (λn s'=>∃ i σ' H',Inv X ao σ' H' s'/\tn i s'.heap/\(∀ b∈fp,H' b=none)/\W i n σ' H') ?_ m0 ⟨0,σ,H2,I2,st2,λb hb=>(f2 b hb).1,w0⟩;rintro n s3 ⟨i,σ3,H3,I3,st3,fr3,w3⟩;rcases pF i n σ3 H3 w3 with ⟨stop,qn⟩|⟨go,N,hN,step⟩
 ·refine wpAny_passesOwn hp (c9 (T.done X rfl rfl rfl hc i ao s3 σ3 H3 X.xe I3 (ue fr3) st3 stop) λr s4 CM=>?_);obtain⟨hr,I4⟩:=CM;subst hr;exact wpAny_execs_nil ⟨σ3,H3,I4,qn⟩
 ·refine wpAny_passesOwn hp (c9 (T.item X rfl rfl rfl hc i ao s3 σ3 H3 X.xe I3 (ue fr3) st3 go) λr s4 G4=>?_);obtain⟨u,hr,h4⟩:=G4;subst hr;refine wpAny_passesOwn hp (c9 h4 λ_ s5 G5=>?_);obtain⟨x,H5,I5,r5,y5,XR,Hf⟩:=G5;have I5':=I5.pinned (ue Hf) (T.obj _ _ XR);refine wpAny_passesOwn hp (c9 (hg _ s5 σ3 H5 x u _ I5' r5 (step x H5 y5)) λ_ s6 G7=>?_);obtain⟨σ6,H6,I6,q6⟩:=G7;refine wpAny_passesOwn hp (c9 (hb _ s6 σ6 H6 _ I6 q6) λf s7 q7=>?_)
  have again:∀ {σ7:St} {H7:Hp},Inv X (ao++ud fp s5.heap) σ7 H7 s7->N σ7 H7->∃ m,m<n/\∃ i σ' H',Inv X ao σ' H' s7/\tn i s7.heap/\(∀ b∈fp,H' b=none)/\W i m σ' H':=λ{σ7 H7} I7 n7=>by
   obtain⟨m',hm,w7⟩:=hN σ7 H7 n7;refine⟨m',hm,i+1,σ7,H7,I7.oO,T.keep _ _ _ XR λb hb o e=>(I7.pin (b,o) (oN _ (oN _ (gS hb e)))).1,λb hb=>?_,w7⟩;obtain⟨o,e,d⟩:=T.obj _ _ XR b hb;exact (I7.pin (b,o) (oN _ (oN _ (gS hb e)))).2.1
  cases f with
  | next=>obtain⟨σ7,H7,I7,n7⟩:=q7;exact again I7 n7
  | cont=>obtain⟨σ7,H7,I7,n7⟩:=q7;exact again I7 n7
  | brk=>obtain⟨σ7,H7,I7,q7⟩:=q7;exact⟨σ7,H7,I7.oO,q7⟩
  | ret v=>obtain⟨x7,σ7,H7,I7,r7,q7⟩:=q7;exact⟨x7,σ7,H7,I7.oO,r7,q7⟩
end
theorem dH{K:Frag}{a:Addr}{xs:List V}{g:TG}{tb:TS}{D:Ends}{σ:St}{H:Hp}(Pv:Nat->St->Hp->Prop)(h0:Pv 0 σ H)(hl:∀ i σ H,i<=xs.length->Pv i σ H->bI K H a xs)
  (hs:∀ i x σ H,xs[i]?=some x->Pv i σ H->g x σ H fun σ2 H2=>tb { D with nx:=Pv (i+1),ct:=Pv (i+1),bk:=D.nx } σ2 H2) (hd:∀ σ H,Pv xs.length σ H->D.nx σ H) :
  ∃ W:Nat->Nat->St->Hp->Prop,(∃ m,W 0 m σ H)/\∀ i m σ H,W i m σ H->
   ((Qy K a).stop i H/\D.nx σ H)\/((Qy K a).go i H/\∃ N:St->Hp->Prop,(∀ σ' H',N σ' H'->∃ m',m'<m/\W (i+1) m' σ' H')/\∀ x H',(Qy K a).Qx i H x H'->g x σ H' fun σ2 H2=>tb { D with nx:=N,ct:=N,bk:=D.nx } σ2 H2):=by
 refine⟨λi m σ H=>m=xs.length-i/\i<=xs.length/\Pv i σ H,⟨xs.length,by simp,Nat.zero_le _,h0⟩,?_⟩;rintro i m σ H ⟨rfl,hi,p⟩;have q:=hl i σ H hi p;by_cases tN:i<xs.length
 ·refine .inr ⟨⟨xs,xs[i],q,by simp[tN]⟩,Pv (i+1),fun σ' H' p'=>⟨xs.length-(i+1),Q,rfl,tN,p'⟩,λx H' y=>?_⟩;obtain⟨e,y⟩:=y;subst e;exact hs i x σ _ (y xs q) p
 ·have e:i=xs.length:=by lia
  subst e;exact .inl ⟨⟨xs,q,fH _⟩,hd σ H p⟩
theorem QT{K:Frag}{a:Addr}{xs:List V}{g:TG}{tb:TS}{D:Ends}{σ:St}{H:Hp}(Pv:Nat->St->Hp->Prop)(h0:Pv 0 σ H)(hl:∀ i σ H,i<=xs.length->Pv i σ H->cY K H a xs)
  (hs:∀ i x σ H,xs[i]?=some x->Pv i σ H->g x σ H fun σ2 H2=>tb { D with nx:=Pv (i+1),ct:=Pv (i+1),bk:=D.nx } σ2 H2) (hd:∀ σ H,Pv xs.length σ H->D.nx σ H) :
  ∃ W:Nat->Nat->St->Hp->Prop,(∃ m,W 0 m σ H)/\∀ i m σ H,W i m σ H->
   ((YJ K a).stop i H/\D.nx σ H)\/((YJ K a).go i H/\∃ N:St->Hp->Prop,(∀ σ' H',N σ' H'->∃ m',m'<m/\W (i+1) m' σ' H')/\∀ x H',(YJ K a).Qx i H x H'->g x σ H' fun σ2 H2=>tb { D with nx:=N,ct:=N,bk:=D.nx } σ2 H2):=by
 refine⟨λi m σ H=>m=xs.length-i/\i<=xs.length/\Pv i σ H,⟨xs.length,by simp,Nat.zero_le _,h0⟩,?_⟩;rintro i m σ H ⟨rfl,hi,p⟩;have q:=hl i σ H hi p;by_cases tN:i<xs.length
 ·refine .inr ⟨⟨xs,xs[i],q,by simp[tN]⟩,Pv (i+1),fun σ' H' p'=>⟨xs.length-(i+1),Q,rfl,tN,p'⟩,λx H' y=>?_⟩;obtain⟨e,y⟩:=y;subst e;exact hs i x σ _ (y xs q) p
 ·have e:i=xs.length:=by lia
  subst e;exact .inl ⟨⟨xs,q,fH _⟩,hd σ H p⟩
theorem jZ{lo:Int}{n:Nat}{g:TG}{tb:TS}{D:Ends}{σ:St}{H:Hp}(Pv:Nat->St->Hp->Prop)(h0:Pv 0 σ H)
  (hs:∀ i σ H,i<n->Pv i σ H->g (.int (lo+i)) σ H fun σ2 H2=>tb { D with nx:=Pv (i+1),ct:=Pv (i+1),bk:=D.nx } σ2 H2) (hd:∀ σ H,Pv n σ H->D.nx σ H) :
  ∃ W:Nat->Nat->St->Hp->Prop,(∃ m,W 0 m σ H)/\∀ i m σ H,W i m σ H->
   ((Vt lo n).stop i H/\D.nx σ H)\/((Vt lo n).go i H/\∃ N:St->Hp->Prop,(∀ σ' H',N σ' H'->∃ m',m'<m/\W (i+1) m' σ' H')/\∀ x H',(Vt lo n).Qx i H x H'->g x σ H' fun σ2 H2=>tb { D with nx:=N,ct:=N,bk:=D.nx } σ2 H2):=by
 refine⟨λi m σ H=>m=n-i/\i<=n/\Pv i σ H,⟨n,by simp,Nat.zero_le _,h0⟩,?_⟩;rintro i m σ H ⟨rfl,hi,p⟩;by_cases tN:i<n
 ·refine .inr ⟨tN,Pv (i+1),fun σ' H' p'=>⟨n-(i+1),Q,rfl,tN,p'⟩,λx H' y=>?_⟩;obtain⟨e,y⟩:=y;subst e y;exact hs i σ _ tN p
 ·have e:i=n:=by lia
  subst e;exact .inl ⟨Nat.le_refl _,hd σ H p⟩
end L2
namespace L2
open Spec Rows
abbrev R2:=V->V->Hp->VK->Prop
def uf(X:Cx)(f:Value->Value->Sem Value)(r:R2):Prop :=
 ∀ (ao:List (Addr × Obj)) (s:Shared) (σ:St) (H:Hp) (x y:V) (v u:Value) (Q:VK),Inv X ao σ H s->RelV x v->RelV y u->r x y H Q->
  wpAny (model X.prog X.w) X.A (f v u) (EP X ao σ Q) X.xe s
def UnR(X:Cx)(f:Value->Sem Value)(r:V->Hp->VK->Prop):Prop :=
 ∀ (ao:List (Addr × Obj)) (s:Shared) (σ:St) (H:Hp) (x:V) (v:Value) (Q:VK),Inv X ao σ H s->RelV x v->r x H Q->
  wpAny (model X.prog X.w) X.A (f v) (EP X ao σ Q) X.xe s
def jV(X:Cx)(f:Value)(r:List V->Hp->VK->Prop):Prop :=
 ∀ (ao:List (Addr × Obj)) (s:Shared) (σ:St) (H:Hp) (xs:List V) (us:List Value) (Q:VK),Inv X ao σ H s->cA xs us->r xs H Q->
  wpAny (model X.prog X.w) X.A (call f us) (EP X ao σ Q) X.xe s
def acU(X:Cx)(r:V->Hp->(Bool->Hp->Prop)->Prop):Prop :=
 ∀ (ao:List (Addr × Obj)) (s:Shared) (σ:St) (H:Hp) (x:V) (v:Value) (Q:Bool->Hp->Prop),Inv X ao σ H s->RelV x v->r x H Q->
  wpAny (model X.prog X.w) X.A (truthy v) (TP X ao σ Q) X.xe s
def YL(r:R2)(ta tb:TE):TE:=fun σ H Q=>ta σ H λx H1=>tb σ H1 λy H2=>r x y H2 Q
def tUn(r:V->Hp->VK->Prop)(ta:TE):TE:=fun σ H Q=>ta σ H λx H1=>r x H1 Q
inductive rI(C:Int->Int->Prop)(g:Int->Int->V)(x y:V)(H:Hp)(Q:VK):Prop
 | mk (i j:Int) (_:x=.int i) (_:y=.int j) (_:C i j) (_:Q (g i j) H):rI C g x y H Q
inductive T7(g:Int->Int->V)(x y:V)(H:Hp)(Q:VK):Prop
 | mk (i j:Int) (_:x=.int i) (_:y=.int j) (_:Q (g i j) H)
def rU(g:Int->V):V->Hp->VK->Prop:=λx H Q=>∃ i,x=.int i/\Q (g i) H
section
variable {X:Cx} {a b c:Expr} {ta tb tc:TE} {pos:Pos}
theorem Vv(ha:PE X a ta)(hb:PE X b tb){ao:List (Addr × Obj)}{s:Shared}{σ:St}{H:Hp}{R:V->V->Hp->Prop}(I:Inv X ao σ H s)
  (h:ta σ H λx H1=>tb σ H1 λy H2=>R x y H2) {Q:Value->Shared->Prop} {f:Value->Value->Sem Value}
  (hf:∀ v u s2 x y H2,Inv X ao σ H2 s2->RelV x v->RelV y u->R x y H2->wpAny (model X.prog X.w) X.A (f v u) Q X.xe s2) :
  wpAny (model X.prog X.w) X.A (eval a X.env) (λv s₁=>wpAny (model X.prog X.w) X.A (eval b X.env) (λu s₂=>wpAny (model X.prog X.w) X.A (f v u) Q X.xe s₂) X.xe s₁) X.xe s:=by
 refine c9 (ha ao s σ H _ I h) λv s1 G6=>?_;obtain⟨x,H1,I1,r1,q1⟩:=G6;refine c9 (hb ao s1 σ H1 _ I1 q1) λu s2 AR=>?_;obtain⟨y,H2,I2,r2,q2⟩:=AR;exact hf v u s2 x y H2 I2 r1 r2 q2
theorem bx{op:Operator}{r:R2}(ho:uf X (binaryOp op) r)(ha:PE X a ta)(hb:PE X b tb):PE X (.BinOp a op b pos) (YL r ta tb):=by
 intro ao s σ H Q I h;exact wpAny_BinOp (Vv ha hb I h λv u s2 x y H2 I2 rx ry q=>ho ao s2 σ H2 x y v u Q I2 rx ry q)
theorem gG{op:UnaryOp}{r:V->Hp->VK->Prop}(ho:UnR X (unaryOp op) r)(ha:PE X a ta):PE X (.UnaryOp op a pos) (tUn r ta):=by
 intro ao s σ H Q I h;exact UnaryOp_ (c9 (ha ao s σ H _ I h) λv s1 ⟨x,H1,I1,r1,q1⟩=>ho ao s1 σ H1 x v Q I1 r1 q1)
theorem opI{f:Value->Value->Sem Value}{C:Int->Int->Prop}{g:Int->Int->Int}
  (rule:∀ (i j:Int) (t u:Tok) (s:Shared) (Q:Value->Shared->Prop) (E:Value->Shared->Prop),C i j->Q (.int (g i j) s.toks) { s with toks:=s.toks+1 }->wpAny (model X.prog X.w) X.A (f (.int i t) (.int j u)) Q E s) :
  uf X f (rI C λi j=>.int (g i j)):=by
 intro ao s σ H x y v u Q I rx ry h;obtain⟨i,j,rfl,rfl,hc,q⟩:=h;obtain⟨t,rfl⟩:=rx;obtain⟨t',rfl⟩:=ry;exact rule i j t t' s _ _ hc ⟨.int (g i j),H,I.tok _,⟨Y⟩,q⟩
theorem YM{f:Value->Value->Sem Value}{g:Int->Int->Int}
  (rule:∀ (i j:Int) (t u:Tok) (s:Shared) (Q:Value->Shared->Prop) (E:Value->Shared->Prop),Q (.int (g i j) s.toks) { s with toks:=s.toks+1 }->wpAny (model X.prog X.w) X.A (f (.int i t) (.int j u)) Q E s) :
  uf X f (T7 λi j=>.int (g i j)):=by
 intro ao s σ H x y v u Q I rx ry h;obtain⟨i,j,rfl,rfl,q⟩:=h;obtain⟨t,rfl⟩:=rx;obtain⟨t',rfl⟩:=ry;exact rule i j t t' s _ _ ⟨.int (g i j),H,I.tok _,⟨Y⟩,q⟩
theorem QU{f:Value->Value->Sem Value}{g:Int->Int->Bool}
  (rule:∀ (i j:Int) (t u:Tok) (s:Shared) (Q:Value->Shared->Prop) (E:Value->Shared->Prop),Q (.bool (g i j)) s->wpAny (model X.prog X.w) X.A (f (.int i t) (.int j u)) Q E s) :
  uf X f (T7 λi j=>.bl (g i j)):=by
 intro ao s σ H x y v u Q I rx ry h;obtain⟨i,j,rfl,rfl,q⟩:=h;obtain⟨t,rfl⟩:=rx;obtain⟨t',rfl⟩:=ry;exact rule i j t t' s _ _ ⟨.bl (g i j),H,I,rfl,q⟩
def acV(i j:Int):Prop:=0<=j/\j<=1000000/\i.natAbs<2^64
def Vw(i j:Int):Prop:=(-(2^64)<i/\i<2^64)\/(-(2^64)<j/\j<2^64)
theorem Vw.ok{i j:Int}(h:Vw i j):IntMulOk i j:=by
 rcases h with ⟨h1,h2⟩|⟨h1,h2⟩
 ·exact .of_left (intBits_le_64 h1 h2)
 ·exact .of_right (intBits_le_64 h1 h2)
theorem dD:uf X (binaryOp .Add) (T7 λi j=>.int (i+j)):=YM λ_ _ _ _ _ _ _ q=>add_int q
theorem cQ:uf X (binaryOp .Sub) (T7 λi j=>.int (i-j)):=YM λ_ _ _ _ _ _ _ q=>sub_int q
theorem Hg:uf X (binaryOp .Mult) (rI Vw λi j=>.int (i*j)):=opI λ_ _ _ _ _ _ _ hc q=>mul_int q hc.ok
theorem zg:uf X (binaryOp .Mod) (rI (λ_ j=>0<j) λi j=>.int (i % j)):=opI λi j _ _ _ _ _ hc q=>by
 have h1:(0:Int)<j:=hc;exact mod_int' ∅ (by rw[Int.fmod_eq_emod_of_nonneg i ∅];exact q)
theorem Np:uf X (binaryOp .Pow) (rI acV λi j=>.int (i^j.toNat)):=opI λ_ _ _ _ _ _ _ hc q=>pow_int_small hc.1 hc.2.1 hc.2.2 q
theorem unI{f:Value->Sem Value}{g:Int->Int}
  (rule:∀ (i:Int) (t:Tok) (s:Shared) (Q:Value->Shared->Prop) (E:Value->Shared->Prop),Q (.int (g i) s.toks) { s with toks:=s.toks+1 }->wpAny (model X.prog X.w) X.A (f (.int i t)) Q E s) :
  UnR X f (rU λi=>.int (g i)):=by
 intro ao s σ H x v Q I rx h;obtain⟨i,rfl,q⟩:=h;obtain⟨t,rfl⟩:=rx;exact rule i t s _ _ ⟨.int (g i),H,I.tok _,⟨Y⟩,q⟩
theorem eG:UnR X (unaryOp .USub) (rU λi=>.int (-i)):=unI λ_ _ _ _ _ q=>neg_int q
end
def YN:V->V->Bool
 | .gm,.gm=>true | .gm,.int _=>true | .int _,.gm=>true | .gm,.bl _=>true | .bl _,.gm=>true | .gm,.str _=>true | .str _,.gm=>true
 | .int _,.int _=>true | .bl _,.bl _=>true | .str _,.str _=>true | .G2 _,.G2 _=>true
 | .int _,.str _=>true | .str _,.int _=>true | .bl _,.str _=>true | .str _,.bl _=>true
 | _,_=>false
def rEq:R2:=λx y H Q=>YN x y=true/\Q (.bl (decide (x=y))) H
def rNe:R2:=λx y H Q=>YN x y=true/\Q (.bl (!decide (x=y))) H
theorem JK{i j:Int}:decide (V.int i=V.int j)=(i == j):=by
 rw[Bool.eq_iff_iff];simp
theorem Nq{i j:Bool}:decide (V.bl i=V.bl j)=(i == j):=by
 rw[Bool.eq_iff_iff];simp
theorem JL{i j:Str}:decide (V.str i=V.str j)=(i == j):=by
 rw[Bool.eq_iff_iff];simp
theorem JM{i j:Array UInt8}:decide (V.G2 i=V.G2 j)=(i.toList == j.toList):=by
 rw[Bool.eq_iff_iff];cases i;cases j;simp
section
variable {X:Cx} {a b c:Expr} {ta tb tc:TE} {pos:Pos}
theorem dJ{σ:St}{H:Hp}{s:Shared}{Q:VK}{k k':Bool}(I:Inv X ao σ H s)(q:Q (.bl k) H)(e:k=k'):EP X ao σ Q (.bool k') s:=by
 subst e;exact⟨.bl k,H,I,rfl,q⟩
theorem dR:uf X (compareOp .Eq) rEq:=by
 intro ao s σ H x y v u Q I rx ry h;obtain⟨hs,q⟩:=h
 cases x with
 | gm =>
  cases rx
  cases y with
  | gm=>cases ry;exact PySem.EqNone.eq_none_none (dJ I q (by simp))
  | bl j=>cases ry;exact PySem.EqNone.eq_none_bool (dJ I q (by simp))
  | int j=>obtain⟨t',rfl⟩:=ry;exact PySem.EqNone.eq_none_int (dJ I q (by simp))
  | str j=>obtain⟨t',rfl⟩:=ry;exact PySem.EqNone.eq_none_str (dJ I q (by simp))
  | _=>exact absurd (show false=true from hs) gf
 | bl i =>
  cases rx
  cases y with
  | gm=>cases ry;exact PySem.EqNone.eq_bool_none (dJ I q (by simp))
  | bl j=>cases ry;exact eq_bool (dJ I q Nq)
  | str j=>obtain⟨t',rfl⟩:=ry;exact PySem.EqMixed.eq_bool_str (dJ I q (by simp))
  | _=>exact absurd (show false=true from hs) gf
 | int i =>
  obtain⟨t,rfl⟩:=rx
  cases y with
  | gm=>cases ry;exact PySem.EqNone.eq_int_none (dJ I q (by simp))
  | int j=>obtain⟨t',rfl⟩:=ry;exact eq_int (dJ I q JK)
  | str j=>obtain⟨t',rfl⟩:=ry;exact PySem.EqMixed.eq_int_str (dJ I q (by simp))
  | _=>exact absurd (show false=true from hs) gf
 | str i =>
  obtain⟨t,rfl⟩:=rx
  cases y with
  | gm=>cases ry;exact PySem.EqNone.eq_str_none (dJ I q (by simp))
  | bl j=>cases ry;exact PySem.EqMixed.eq_str_bool (dJ I q (by simp))
  | int j=>obtain⟨t',rfl⟩:=ry;exact PySem.EqMixed.eq_str_int (dJ I q (by simp))
  | str j=>obtain⟨t',rfl⟩:=ry;exact eq_str (dJ I q JL)
  | _=>exact absurd (show false=true from hs) gf
 | G2 i =>
  obtain⟨t,rfl⟩:=rx
  cases y with
  | G2 j=>obtain⟨t',rfl⟩:=ry;exact PySem.W.eq_bytes (dJ I q JM)
  | _=>exact absurd (show false=true from hs) gf
 | _=>cases y <;> exact absurd (show false=true from hs) gf
theorem Nr:uf X (compareOp .NotEq) rNe:=by
 intro ao s σ H x y v u Q I rx ry h;obtain⟨hs,q⟩:=h
 cases x with
 | gm =>
  cases rx
  cases y with
  | gm=>cases ry;exact PySem.EqNone.ne_none_none (dJ I q (by simp))
  | bl j=>cases ry;exact PySem.EqNone.ne_none_bool (dJ I q (by simp))
  | int j=>obtain⟨t',rfl⟩:=ry;exact PySem.EqNone.ne_none_int (dJ I q (by simp))
  | str j=>obtain⟨t',rfl⟩:=ry;exact PySem.EqNone.ne_none_str (dJ I q (by simp))
  | _=>exact absurd (show false=true from hs) gf
 | bl i =>
  cases rx
  cases y with
  | gm=>cases ry;exact PySem.EqNone.ne_bool_none (dJ I q (by simp))
  | bl j=>cases ry;exact ne_bool (dJ I q (congrArg not Nq))
  | str j=>obtain⟨t',rfl⟩:=ry;exact PySem.EqMixed.ne_bool_str (dJ I q (by simp))
  | _=>exact absurd (show false=true from hs) gf
 | int i =>
  obtain⟨t,rfl⟩:=rx
  cases y with
  | gm=>cases ry;exact PySem.EqNone.ne_int_none (dJ I q (by simp))
  | int j=>obtain⟨t',rfl⟩:=ry;exact ne_int (dJ I q (congrArg not JK))
  | str j=>obtain⟨t',rfl⟩:=ry;exact PySem.EqMixed.ne_int_str (dJ I q (by simp))
  | _=>exact absurd (show false=true from hs) gf
 | str i =>
  obtain⟨t,rfl⟩:=rx
  cases y with
  | gm=>cases ry;exact PySem.EqNone.ne_str_none (dJ I q (by simp))
  | bl j=>cases ry;exact PySem.EqMixed.ne_str_bool (dJ I q (by simp))
  | int j=>obtain⟨t',rfl⟩:=ry;exact PySem.EqMixed.ne_str_int (dJ I q (by simp))
  | str j=>obtain⟨t',rfl⟩:=ry;exact ne_str (dJ I q (congrArg not JL))
  | _=>exact absurd (show false=true from hs) gf
 | G2 i =>
  obtain⟨t,rfl⟩:=rx
  cases y with
  | G2 j=>obtain⟨t',rfl⟩:=ry;exact PySem.W.ne_bytes (dJ I q (congrArg not JM))
  | _=>exact absurd (show false=true from hs) gf
 | _=>cases y <;> exact absurd (show false=true from hs) gf
theorem mJ:uf X (compareOp .Lt) (T7 λi j=>.bl (decide (i<j))):=QU λ_ _ _ _ _ _ _ q=>lt_int q
theorem gn:uf X (compareOp .LtE) (T7 λi j=>.bl (decide (i<=j))):=QU λ_ _ _ _ _ _ _ q=>le_int q
theorem EI:uf X (compareOp .Gt) (T7 λi j=>.bl (decide (j<i))):=QU λ_ _ _ _ _ _ _ q=>gt_int q
theorem T8:uf X (compareOp .GtE) (T7 λi j=>.bl (decide (j<=i))):=QU λ_ _ _ _ _ _ _ q=>ge_int q
theorem bh(b:Expr){op:CmpOp}(h:op≠.In:=by decide)(h2:op≠.NotIn:=by decide):behindInMarks op b=false:=by
 have e1:(op == CmpOp.In)=false:=by cases op <;> first|rfl|exact absurd rfl h
 have e2:(op == CmpOp.NotIn)=false:=by cases op <;> first|rfl|exact absurd rfl h2
 cases b <;> simp[behindInMarks,e1,e2]
theorem lT{op:CmpOp}{r:R2}(ho:uf X (compareOp op) r)(ha:PE X a ta)(hb:PE X b tb)(hm:behindInMarks op b=false):PE X (.Compare a [op] [b] pos) (YL r ta tb):=by
 intro ao s σ H Q I h;exact wpAny_Compare1 (Vv ha hb I h λv u s2 x y H2 I2 rx ry q=>ho ao s2 σ H2 x y v u Q I2 rx ry q) hm
def T9(t:TE):TT:=fun σ H Q=>t σ H λx H'=>isB x H' Q
theorem aV{op:CmpOp}{r:R2}(ho:uf X (compareOp op) r)(ha:PE X a ta)(hb:PE X b tb)(hm:behindInMarks op b=false):PT X (.Compare a [op] [b] pos) (T9 (YL r ta tb)):=by
 intro ao s σ H Q I h
 refine wpAny_isTrue_Compare1 (c9 (ha ao s σ H _ I h) λv s1 ⟨x,H1,I1,r1,q1⟩=>c9 (hb ao s1 σ H1 _ I1 q1) λu s2 ⟨y,H2,I2,r2,q2⟩ =>
  c9 (ho ao s2 σ H2 x y v u _ I2 r1 r2 q2) λc s3 ⟨z,H3,I3,r3,k,e,q3⟩=>?_) hm
 subst e;cases r3;exact wpAny_truthy_bool ⟨H3,I3,q3⟩
def Vx(r r':R2)(ta tb tc:TE):TE:=fun σ H Q=>ta σ H λx H1=>tb σ H1 λy H2=>r x y H2 λz H3=>∃ k,z=.bl k/\
 (if k=true then tc σ H3 λw' H4=>r' y w' H4 Q else Q (.bl false) H3)
theorem vj{op Ep:CmpOp}{r r':R2}(ho:uf X (compareOp op) r)(KR:uf X (compareOp Ep) r')(ha:PE X a ta)(hb:PE X b tb)(hc:PE X c tc)
  (hm:lastMarks [op,Ep] [b,c]=false:=by with_unfolding_all rfl):PT X (.Compare a [op,Ep] [b,c] pos) (T9 (Vx r r' ta tb tc)):=by
 intro ao s σ H Q I h
 refine isTrue_chain (c9 (ha ao s σ H _ I h) λv s1 ⟨x,H1,I1,r1,q1⟩=>test_link (c9 (hb ao s1 σ H1 _ I1 q1) λu s2 ⟨y,H2,I2,r2,q2⟩ =>
  c9 (ho ao s2 σ H2 x y v u _ I2 r1 r2 q2) λd s3 ⟨z,H3,I3,r3,k,e,q3⟩=>?_)) hm
 subst e;cases r3;refine wpAny_truthy_bool ?_
 cases k with
 | false =>
  obtain⟨k',e',q'⟩:=q3;cases e';exact ite_ff ⟨H3,I3,q'⟩
 | true =>
  refine ite_tt (test_last (c9 (hc ao s3 σ H3 _ I3 q3) λw' s4 ⟨z',H4,I4,r4,q4⟩=>c9 (KR ao s4 σ H4 y z' u w' _ I4 r2 r4 q4) λd' s5 EF=>?_));obtain⟨z2,H5,I5,r5,k2,e2,q5⟩:=EF;subst e2;cases r5;exact wpAny_truthy_bool ⟨H5,I5,q5⟩
def YO(K:Frag)(x:V)(H:Hp)(k:Bool):Prop :=
 match x with
 | .gm=>k=false
 | .bl b=>k=b
 | .int i=>k=(i != 0)
 | .str y=>y.length<=sizeLine/\k=((y.length:Int) != 0)
 | .G2 y=>y.size<=sizeLine/\k=((y.size:Int) != 0)
 | .ref p=>(∃ xs,bI K H p xs/\k=!xs.isEmpty)\/(∃ xs,cY K H p xs/\k=!xs.isEmpty)\/∃ kvs,H p=some (.dK kvs)/\k=!kvs.isEmpty
 | _=>False
theorem Hh{κ:Type}{kvs:List (κ × V)}{vs:List (κ × Value)}(r:KV kvs vs):(!vs.isEmpty)=!kvs.isEmpty:=by
 cases r <;> rfl
theorem zh{xs:List V}{aL:List Value}(r:cA xs aL):(!aL.toArray.isEmpty)=!xs.isEmpty:=by
 cases r <;> simp
theorem ug:(sizeLine:Nat)<2^63:=by rw[sizeLine_eq];decide
theorem Vy:acU X (λx H Q=>∃ k,YO X.K x H k/\Q k H):=by
 intro ao s σ H x v Q I rx h;obtain⟨k,e,q⟩:=h;have hl:=ug;have hs:sizeLine=16777216:=sizeLine_eq
 cases x with
 | gm =>
  cases rx;have e':k=false:=e;subst e';exact truthy_none ⟨H,I,q⟩
 | bl b =>
  cases rx;have e':k=b:=e;subst e';exact wpAny_truthy_bool ⟨H,I,q⟩
 | int i =>
  obtain⟨t,rfl⟩:=rx;have e':k=(i != 0):=e;subst e';exact PySem.P.truthy_int ⟨H,I,q⟩
 | str y =>
  obtain⟨t,rfl⟩:=rx;obtain⟨hy,e'⟩:y.length<=sizeLine/\k=((y.length:Int) != 0):=e;subst e';exact PySem.P.truthy_str ∅ ⟨H,I.tok _,q⟩
 | G2 y =>
  obtain⟨t,rfl⟩:=rx;obtain⟨hy,e'⟩:y.size<=sizeLine/\k=((y.size:Int) != 0):=e;subst e';exact PySem.W.truthy_bytes ∅ ⟨H,I.tok _,q⟩
 | ref p =>
  cases rx;have e':(∃ xs,bI X.K H p xs/\k=!xs.isEmpty)\/(∃ xs,cY X.K H p xs/\k=!xs.isEmpty)\/∃ kvs,H p=some (.dK kvs)/\k=!kvs.isEmpty:=e;rcases e' with ⟨xs,hx,e'⟩|⟨xs,hx,e'⟩|⟨kvs,hx,e'⟩
  ·subst e';obtain⟨aL,r,pl,hz⟩:=I.list hx;have dO:=r.length;exact wpAny_truthy_list pl.isList (by simp only[gP];lia) ⟨H,I.tok _,by rw[zh r];exact q⟩
  ·subst e';obtain⟨aL,r,pl,hz⟩:=I.tuple hx;have dO:=r.length;exact truthy_tuple pl (by simp only[gP];lia) ⟨H,I.tok _,by rw[zh r];exact q⟩
  ·subst e';obtain⟨hz,hS,vs,r,m⟩:kvs.length<=sizeLine/\(p == sysModules)=false/\∃ vs,KV kvs vs/\s.heap.DictOf (fQ X.prog X.w) p vs:=I.hok p _ hx;have dO:kvs.length=vs.length:=Paired.length r;exact wpAny_truthy_dict hS m ∅ ⟨H,I.tok _,by rw[Hh r];exact q⟩
 | _=>exact (show False from e).elim
theorem ku(ha:PE X a ta)(he:∀ ze,isTrue a X.env ze=(do let v ← ze;standAt a.pos;holding [v] (truthy v))) :
  PT X a (fun σ H Q=>ta σ H λx H'=>∃ k,YO X.K x H' k/\Q k H'):=by
 intro ao s σ H Q I h;exact isTrue_plain (c9 (ha ao s σ H _ I h) λv s1 ⟨x,H1,I1,r1,q1⟩=>Vy ao s1 σ H1 x v Q I1 r1 q1) (he _)
theorem vals1{x:V}{us:List Value}(r:cA [x] us):∃ u,us=[u]/\RelV x u:=by
 cases r with
 | cons r1 r2=>cases r2;exact⟨Y,r1⟩
theorem vals2{x y:V}{us:List Value}(r:cA [x,y] us):∃ u w',us=[u,w']/\RelV x u/\RelV y w':=by
 cases r with
 | cons r1 r2 =>
  cases r2 with
  | cons r3 r4=>cases r4;exact⟨P,rfl,r1,r3⟩
theorem mj(hc:X.calm=true):jV X (.builtin "max") (λxs H Q=>∃ i j,xs=[.int i,.int j]/\Q (.int (if j > i then j else i)) H):=by
 intro ao s σ H xs us Q I r h;obtain⟨i,j,rfl,q⟩:=h;obtain⟨u,w',rfl,⟨t,rfl⟩,⟨t',rfl⟩⟩:=vals2 r;refine max_two_ints (I.ok.hd hc) λh' tk k=>⟨_,H,I.kept k,?_,q⟩;by_cases hj:j > i
 ·rw[if_pos hj,if_pos hj];exact⟨Y⟩
 ·rw[if_neg hj,if_neg hj];exact⟨Y⟩
theorem oQ(hc:X.calm=true):jV X (.builtin "min") (λxs H Q=>∃ i j,xs=[.int i,.int j]/\Q (.int (if j<i then j else i)) H):=by
 intro ao s σ H xs us Q I r h;obtain⟨i,j,rfl,q⟩:=h;obtain⟨u,w',rfl,⟨t,rfl⟩,⟨t',rfl⟩⟩:=vals2 r;refine min_two_ints (I.ok.hd hc) λh' tk k=>⟨_,H,I.kept k,?_,q⟩;by_cases hj:j<i
 ·rw[if_pos hj,if_pos hj];exact⟨Y⟩
 ·rw[if_neg hj,if_neg hj];exact⟨Y⟩
end
end L2
namespace L2
open Spec Rows
structure Hi(h:Heap)(x dx C:Addr)(mA:Str->Option Value):Prop where
 obj:h.get? x=some (instObj C dx)
 ns:h.Ns1 dx mA
 ne:dx≠x
theorem KZ{h:Heap}{mA:Str->Option Value}(n:h.Ns1 dx mA):∃ od,h.get? dx=some od/\∀ name,lookIn name od=some (mA name):=by
 obtain⟨o,es,ep,ho,hd,hk,_,hm⟩:=n;refine⟨o,ho,λname=>?_⟩;have e:=hm name;unfold nsFind findBy at e;rw[← Array.find?_toList]at e;unfold lookIn;rw[hd];dsimp only;split
 ·rename_i y q;rw[q]at e;exact congrArg some e
 ·rename_i q;rw[q]at e
  have a:es.toList.any (·.refKey)=false:=by
   rw[List.any_eq_false];intro y hy;obtain⟨z,t,hkey⟩:=hk y (Array.mem_toList_iff.mp hy);simp[DictEntry.refKey,hkey]
  have a':¬ es.toList.any (·.refKey)=true:=by rw[a];exact gf
  rw[if_neg a'];exact congrArg some e
theorem Hi.look{h:Heap}{x:Addr}{mA:Str->Option Value}(I:Hi h x dx C mA):∃ od,InstAt h x (instObj C dx) C (some od)/\∀ name,lookIn name od=some (mA name) :=
 let ⟨od,ho,hl⟩:=KZ I.ns
 ⟨od,⟨I.obj,V,ho⟩,hl⟩
section
variable {prog:Program} {w:World} {A:Around} {E:Value->Shared->Prop} {s:Shared} {K:Frag} {x dx C f:Addr} {mA:Str->Option Value} {name:Str} {v:Value}
theorem QV{acW:Bool}{Q:Value->Shared->Prop}(X:K.In s.heap)(I:Hi s.heap x dx C mA)(hg:plainGet K C name=true)(hh:hasDictIn K C=true)
  (ha:findIn K (.ref C) name=some none) (hv:mA name=some v) (hv':handedIn v=true) (h:Q v { s with toks:=s.toks+1 }) :
  wpAny (model prog w) A (getAttr (.ref x) name acW) Q E s:=by
 obtain⟨od,J,hl⟩:=I.look;exact PySem.W.get_value X J (plainGet_of hg).1 (PySem.W.findObj_own hh ha rfl (by rw[hl,hv])) hv' h
theorem Nt{pl:Sem Bool}{Q:Value × List Value->Shared->Prop}(X:K.In s.heap)(I:Hi s.heap x dx C mA)(hg:plainGet K C name=true)
  (hf:findIn K (.ref C) name=some (some (.ref f))) (ht:isFn K (.ref f)=true) (hv:mA name=none) (h:Q (.ref f,[.ref x]) s) :
  wpAny (model prog w) A (getMethod (.ref x) name pl) Q E s:=by
 obtain⟨od,J,hl⟩:=I.look;exact PySem.W.method_fn X J (plainGet_of hg).1 (plainGet_of hg).2 hf (beq_iff_eq.mp ht) (by show (lookIn name od).map (·.isSome)=some false;rw[hl,hv];rfl) h
theorem QW{ns:List Str}{Q:Unit->Shared->Prop}(X:K.In s.heap)(I:Hi s.heap x dx C mA)
  (hs:findIn K (.ref C) "__setattr__"=some (some (.builtin "object.__setattr__"))) (hp:plainOver K C=true) (ht:takerIn K C name=some none) (hh:hasDictIn K C=true)
  (hw:PySem.Within mA ns) (hsz:ns.length<=sizeLine)
  (h:∀ h',Hi h' x dx C (λy=>if y=name then some v else mA y)->Heap.SameBut dx s.heap h'->Q () { s with heap:=h',toks:=s.toks+2 }) :
  wpAny (model prog w) A (setAttr (.ref x) name v) Q E s:=by
 obtain⟨od,J,hl⟩:=I.look;refine PySem.W.set_plain X J hs (PySem.W.osa_open (s:={ s with toks:=s.toks+1 }) (r:=none) X J hp ht λb=>?_);obtain⟨cd,hc,hd'⟩:=PySem.W.any_some hh;have hx:s.heap.get? x=some ⟨.ref C,some dx,.plain,#[]⟩:=I.obj;refine wpAny_bind (wpAny_pure (wpAny_bind (wpAny_bind (wpAny_loadPart hx (wpAny_bind (PySem.W.Looks.here (s:={ s with toks:=s.toks+1 }) (PySem.W.looks_clsIn X hc) ?_))))));rw[hd'];refine wpAny_pure (a:=some dx) (wpAny_bind (wpAny_pure (wpAny_bind ?_)));refine wpAny_nsSet1 (s:={ s with toks:=s.toks+1 }) I.ns λh' hn2 K0=>?_;obtain⟨oD,esD,epD,hoD,hdD,hcD⟩:=hn2.count (PySem.Within.cons name v hw);refine wpAny_bind (wpAny_lookBehind hoD (by rw[hdD];exact pastItsLine_dict (gR hcD (by rw[lR];lia))) ?_);exact wpAny_pure (h _ ⟨(K0.2 _ (Ne.symm I.ne)).trans I.obj,hn2,I.ne⟩ K0)
theorem Nu{R:Result->Shared->Prop}{vs:List Value}{kw:List (Str × Value)}(X:K.In s.heap)(hm:makesIn K C=true)
  (hi:findIn K (.ref C) "__init__"=some (some (.ref f))) (hf:typeIn K (.ref f)=some (.type "function"))
  (h:codeAny (model prog w) (A.under (.builtin "type.__call__" ⟨.ref C::vs,kw⟩)) (.call (.ref f) ⟨.ref (s.heap.objs.size+1)::vs,kw⟩) (PySem.W.InitBack (s.heap.objs.size+1) R)
   { s with heap:=(s.heap.push emptyDict).push (instObj C s.heap.objs.size) }) :
  codeAny (model prog w) A (.call (.ref C) ⟨vs,kw⟩) R s:=by
 obtain⟨hh,g,d,t,os⟩:=s;exact PySem.W.make_core (PySem.W.makes_of X hm) (PySem.W.looks_findIn X hi) (λself=>PySem.W.bind_fn X self hf) (.inl rfl) h
end
def d8(f:Str)(v:V):List (Str × V)->List (Str × V)
 | []=>[(f,v)]
 | (g,x)::r=>if g=f then (g,v)::r else (g,x)::d8 f v r
theorem xS(f g:Str)(v:V):∀ fs:List (Str × V),(d8 f v fs).lookup g=if g=f then some v else fs.lookup g
 | []=>by
  show List.lookup g [(f,v)]=_;by_cases h:g=f
  ·have hb:(g == f)=true:=beq_iff_eq.mpr h;simp only[List.lookup,hb,if_pos h]
  ·have hb:(g == f)=false:=beq_eq_false_iff_ne.mpr h;simp only[List.lookup,hb,if_neg h]
 | (k,x)::r=>by
  have ih:=xS f g v r;rw[show d8 f v ((k,x)::r)=(if k=f then (k,v)::r else (k,x)::d8 f v r) from rfl];by_cases hk:k=f
  ·rw[if_pos hk];by_cases h:g=k
   ·have hb:(g == k)=true:=beq_iff_eq.mpr h;simp only[List.lookup,hb,if_pos (h.trans hk)]
   ·have hb:(g == k)=false:=beq_eq_false_iff_ne.mpr h;simp only[List.lookup,hb,if_neg (λe:g=f=>h (e.trans hk.symm))]
  ·rw[if_neg hk];by_cases h:g=k
   ·have hb:(g == k)=true:=beq_iff_eq.mpr h;simp only[List.lookup,hb,if_neg (λe:g=f=>hk (h.symm.trans e))]
   ·have hb:(g == k)=false:=beq_eq_false_iff_ne.mpr h;simp only[List.lookup,hb];exact ih
theorem wK(f:Str)(v:V):∀ fs:List (Str × V),f∈(d8 f v fs).map (·.1)/\∀ g,g∈fs.map (·.1)->g∈(d8 f v fs).map (·.1)
 | []=>⟨by simp[d8],λg h=>by simp at h⟩
 | (k,x)::r=>by
  obtain⟨i1,i2⟩:=wK f v r;rw[show d8 f v ((k,x)::r)=(if k=f then (k,v)::r else (k,x)::d8 f v r) from rfl];by_cases hk:k=f
  ·rw[if_pos hk];subst hk;exact⟨by simp,λg h=>by simpa using h⟩
  ·rw[if_neg hk];refine⟨?_,λg h=>?_⟩
   ·rw[jv];exact mE _ i1
   ·rw[jv]at h ⊢;rcases List.mem_cons.mp h with e|e
    ·exact List.mem_cons.mpr (.inl e)
    ·exact mE _ (i2 g e)
theorem xT(f:Str)(v:V):∀ fs:List (Str × V),(d8 f v fs).length<=fs.length+1
 | []=>by simp[d8]
 | (k,x)::r=>by
  have ih:=xT f v r;rw[show d8 f v ((k,x)::r)=(if k=f then (k,v)::r else (k,x)::d8 f v r) from rfl];by_cases hk:k=f
  ·rw[if_pos hk,lR,lR];lia
  ·rw[if_neg hk,lR,lR];lia
theorem sY.some_of{v:V}{o:Option Value}(r:sY (some v) o):∃ u,o=some u/\RelV v u:=by
 cases o with
 | none=>exact (show False from r).elim
 | some u=>exact⟨u,rfl,r⟩
theorem sY.none_of{o:Option Value}(r:sY none o):o=none:=by
 cases o with
 | none=>rfl
 | some u=>exact (show False from r).elim
theorem K9{v:V}{u:Value}(r:RelV v u):handedIn u=true:=by
 cases v with
 | gm=>cases (show u=Value.none from r);rfl
 | bl b=>cases (show u=Value.bool b from r);rfl
 | int i=>obtain⟨t,e⟩:=(show ∃ t,u=Value.int i t from r);cases e;rfl
 | str x=>obtain⟨t,e⟩:=(show ∃ t,u=Value.str x t from r);cases e;rfl
 | G2 b=>obtain⟨t,e⟩:=(show ∃ t,u=Value.bytes b t from r);cases e;rfl
 | TY b=>obtain⟨t,e⟩:=(show ∃ t,u=Value.float b t from r);cases e;rfl
 | ref a=>cases (show u=Value.ref a from r);rfl
 | ty n=>cases (show u=Value.type n from r);rfl
section
variable {P:Program} {w:World} {H H':Hp} {h h':Heap} {a C dx:Addr} {fs XQ:List (Str × V)}
theorem yR(hok:vd P w H h)(e:H a=some (.ins C dx fs)):∃ mA,Hi h a dx C mA/\(∀ f,sY (fs.lookup f) (mA f))/\PySem.Within mA (fs.map (·.1))/\fs.length<=1000/\H dx=some (.own a):=by
 obtain⟨d,z,ne,ob,mA,n,r,q⟩:=(show fR P w H h a (.ins C dx fs) from hok a _ e);exact⟨mA,⟨ob,n,ne⟩,r,q,z,d⟩
end
structure MS(K:Frag)(C:Addr):Prop where
 pg:plainGet K C Str.empty=true
 hd:hasDictIn K C=true
 po:plainOver K C=true
 sa:findIn K (.ref C) "__setattr__"=some (some (.builtin "object.__setattr__"))
theorem MS.get{K:Frag}(c:MS K C)(f:Str):plainGet K C f=true:=c.pg
def fK(K:Frag)(C:Addr)(f:Str):Prop:=findIn K (.ref C) f=some none
theorem fK.YQ{K:Frag}{f:Str}(n:fK K C f):takerIn K C f=some none:=by
 unfold takerIn;rw[show findIn K (.ref C) f=some none from n];rfl
structure Nv(K:Frag)(C:Addr)(m:Str)(f:Addr):Prop where
 at_:findIn K (.ref C) m=some (some (.ref f))
 fn:isFn K (.ref f)=true
 kp:keepIn K (.ref f)=true
section
variable {X:Cx} {ao:List (Addr × Obj)} {σ:St} {H:Hp} {s:Shared} {a C dx:Addr} {fs:List (Str × V)} {f:Str} {v:V} {A:Around} {E:Value->Shared->Prop}
theorem zj{b:Bool}{Q:Value->Shared->Prop}(I:Inv X ao σ H s)(e:H a=some (.ins C dx fs))(c:MS X.K C)(n:fK X.K C f)(l:fs.lookup f=some v)
  (h:∀ u s',Inv X ao σ H s'->RelV v u->Q u s'):wpAny (model X.prog X.w) A (getAttr (.ref a) f b) Q E s:=by
 obtain⟨mA,O,r,_,_,_⟩:=yR I.hok e;obtain⟨u,hu,ru⟩:=sY.some_of (v:=v) (o:=mA f) (by rw[← l];exact r f);exact QV I.xR O (c.get f) c.hd n hu (K9 ru) (h u _ (I.tok _) ru)
theorem zl{m:Str}{g:Addr}{pl:Sem Bool}{Q:Value × List Value->Shared->Prop}(I:Inv X ao σ H s)(e:H a=some (.ins C dx fs))(c:MS X.K C)(k:Nv X.K C m g)(l:fs.lookup m=none)
  (h:Q (.ref g,[.ref a]) s):wpAny (model X.prog X.w) A (getMethod (.ref a) m pl) Q E s:=by
 obtain⟨mA,O,r,_,_,_⟩:=yR I.hok e;have hn:mA m=none:=sY.none_of (by rw[← l];exact r m);exact Nt I.xR O (c.get m) k.at_ k.fn hn h
theorem zm{y:V}{u:Value}{Q:Unit->Shared->Prop}(I:Inv X ao σ H s)(e:H a=some (.ins C dx fs))(c:MS X.K C)(n:fK X.K C f)(hl:fs.length<1000)(ry:RelV y u)
  (h:∀ s',Inv X ao σ (aM H a (.ins C dx (d8 f y fs))) s'->Q () s'):wpAny (model X.prog X.w) A (setAttr (.ref a) f u) Q E s:=by
 obtain⟨mA,O,r,wi,_,ho⟩:=yR I.hok e;have hz:(fs.map (·.1)).length<=sizeLine:=by rw[cz,sizeLine_eq];lia
 refine QW I.xR O c.sa c.po n.YQ c.hd wi hz λh' O' sb=>h _ ?_;have hd:∃ o,h'.get? dx=some o:=let ⟨o,P,e',_⟩:=O'.ns;⟨o,e'⟩;refine I.write (x:=a) (e:=dx) (by rw[e];exact True.intro) (.inr ho) (λb q hb z=>(sb.2 b hb).trans z) hd ?_;refine⟨by rw[aJ O.ne];exact ho,?_,O.ne,O'.obj,_,O'.ns,λg=>?_,λg hg=>?_⟩
 ·have:=xT f y fs;lia
 ·show sY ((d8 f y fs).lookup g) (if g=f then some u else mA g);rw[xS];by_cases q:g=f
  ·rw[if_pos q,if_pos q];exact ry
  ·rw[if_neg q,if_neg q];exact r g
 ·by_cases q:g=f
  ·rw[q];exact (wK f y fs).1
  ·refine (wK f y fs).2 g (wi g λz=>hg ?_);show (if g=f then some u else mA g)=none;rw[if_neg q];exact z
theorem Inv.made(I:Inv X ao σ H s):Inv X ao σ (aM (aM H s.heap.objs.size (.own (s.heap.objs.size+1))) (s.heap.objs.size+1) (.ins C s.heap.objs.size []))
  { s with heap:=(s.heap.push emptyDict).push (instObj C s.heap.objs.size) }:=by
 have e1:(s.heap.push emptyDict).get? s.heap.objs.size=some emptyDict:=Heap.get?_push_size s.heap rfl
 have e2:((s.heap.push emptyDict).push (instObj C s.heap.objs.size)).get? (s.heap.objs.size+1)=some (instObj C s.heap.objs.size):=by
  have:=Heap.get?_push_size (s.heap.push emptyDict) (o:=instObj C s.heap.objs.size) rfl;rwa [Heap.size_push]at this
 have e3:(s.heap.push emptyDict).Ns s.heap.objs.size (λ_=>none):=⟨emptyDict,#[],_,e1,rfl,(λe he=>absurd he (by simp)),λ_=>rfl⟩;have I1:=I.laid (a:=s.heap.objs.size) (o:=.own (s.heap.objs.size+1)) (h':=s.heap.push emptyDict) (t':=s.toks) (λb u q=>Heap.get?_push_of_some _ q) (fH _) ⟨_,e1⟩;refine I1.laid (a:=s.heap.objs.size+1) (o:=.ins C s.heap.objs.size []) (t':=s.toks) (λb u q=>Heap.get?_push_of_some _ q) (Nat.le_of_eq (Heap.size_push _ _)) ?_;have ne:s.heap.objs.size≠s.heap.objs.size+1:=jS (Nat.lt_succ_self _);refine⟨by rw[aJ ne,af],Nat.zero_le _,ne,e2,λ_=>none,(Heap.Ns1.of_empty e3).at λo q=>Heap.get?_push_of_some _ q,λ_=>True.intro,λy hy=>absurd rfl hy⟩
theorem QX{prog:Program}{w:World}{env:Env}{e:Expr}{f:Str}{s:Shared}{Q:Value->Shared->Prop}(hb:attributeBase e f env (eval e env)=eval e env)
  (h:wpAny (model prog w) A (eval e env) (λo s₁=>wpAny (model prog w) A (getAttr o f true) Q E s₁) E s):wpAny (model prog w) A (eval (.Attribute e f pos) env) Q E s :=
 Attribute_any_ h (by rw[arm_eval_Attribute,hb])
end
inductive YR(K:Frag)(f:Str)(x:V)(H:Hp)(Q:VK):Prop
 | mk (a C dx:Addr) (fs:List (Str × V)) (v:V) (_:x=.ref a) (_:H a=some (.ins C dx fs)) (_:MS K C) (_:fK K C f) (_:fs.lookup f=some v) (_:Q v H):YR K f x H Q
def acX(K:Frag)(ta:TE)(f:Str):TE:=fun σ H Q=>ta σ H λx H1=>YR K f x H1 Q
def acY(K:Frag)(ta tv:TE)(f:Str):TS:=λD σ H=>tv σ H λy H1=>ta σ H1 λx H2=>∃ a C dx fs,x=.ref a/\H2 a=some (.ins C dx fs)/\MS K C/\fK K C f/\fs.length<1000/\
 D.nx σ (aM H2 a (.ins C dx (d8 f y fs)))
def YS(X:Cx)(op:Operator)(rd:V->V->Hp->VK->Prop):Prop :=
 ∀ (ao:List (Addr × Obj)) (s:Shared) (σ:St) (H:Hp) (x y:V) (u v:Value) (Q:VK),Inv X ao σ H s->RelV x u->RelV y v->rd x y H Q->wpAny (model X.prog X.w) X.A (inplaceOp op u v) (EP X ao σ Q) X.xe s
def QY(K:Frag)(ta tv:TE)(rd:V->V->Hp->VK->Prop)(f:Str):TS:=λD σ H=>ta σ H λx H1=>∃ a C dx fs v,x=.ref a/\H1 a=some (.ins C dx fs)/\MS K C/\fK K C f/\fs.lookup f=some v/\
 tv σ H1 λy H2=>rd v y H2 λz H3=>∃ dx' XQ,H3 a=some (.ins C dx' XQ)/\XQ.length<1000/\D.nx σ (aM H3 a (.ins C dx' (d8 f z XQ)))
section
variable {X:Cx} {o e value:Expr} {f:Str} {pos iU La:Pos} {ta tv:TE}
theorem dF(he:PE X e ta)(hb:attributeBase e f X.env (eval e X.env)=eval e X.env):PE X (.Attribute e f pos) (acX X.K ta f):=by
 intro ao s σ H Q I h;refine QX hb (c9 (he ao s σ H _ I h) λu s1 CM=>?_);obtain⟨x,H1,I1,rx,a,C,dx,fs,v,ex,ea,c,n,l,q⟩:=CM;subst ex;obtain rfl:u=Value.ref a:=rx;exact zj I1 ea c n l λu' s2 I2 ru=>⟨v,H1,I2,ru,q⟩
theorem jf(ha:PE X o ta)(hv:PE X value tv)(hs:swapsWith value (some (.Attribute o f iU)) pos.line X.env=pure false):PS X (.Assign [.Attribute o f iU] value pos) (acY X.K ta tv f):=by
 intro ao s σ H D I h;refine plainObj_wpAny_Assign_Attribute (c9 (hv ao s σ H _ I h) λu s1 h1=>?_) hs;obtain⟨y,H1,I1,ry,q⟩:=h1;refine c9 (ha ao s1 σ H1 _ I1 q) λov s2 h2=>?_;obtain⟨x,H2,I2,rx,a,C,dx,fs,ex,ea,c,n,l,q2⟩:=h2;subst ex;obtain rfl:ov=Value.ref a:=rx;exact zm I2 ea c n l ry λs3 I3=>⟨σ,_,I3,q2⟩
theorem wL{op:Operator}{rd:V->V->Hp->VK->Prop}(ha:PE X o ta)(hv:PE X value tv)(Qz:YS X op rd):PS X (.AugAssign (.Attribute o f La) op value pos) (QY X.K ta tv rd f):=by
 intro ao s σ H D I h;refine wpAny_AugAssign_AttributeAny (c9 (ha ao s σ H _ I h) λov s1 h1=>?_);obtain⟨x,H1,I1,rx,a,C,dx,fs,v,ex,ea,c,n,l,q⟩:=h1;subst ex;obtain rfl:ov=Value.ref a:=rx;refine zj I1 ea c n l λu s2 I2 ru=>c9 (hv ao s2 σ H1 _ I2 q) λw3 s3 ⟨y,H2,I3,ry,q3⟩=>c9 (Qz ao s3 σ H2 v y u w3 _ I3 ru ry q3) λw4 s4 G5=>?_;obtain⟨z,H3,I4,rz,dx',XQ,ea',l',q4⟩:=G5;exact zm I4 ea' c n l' rz λs5 I5=>⟨σ,_,I5,q4⟩
end
section
variable {X:Cx} {ao:List (Addr × Obj)} {σ:St} {H:Hp} {s:Shared} {A:Around} {E:Value->Shared->Prop} {Q:Value->Shared->Prop} {c:Value} {b:Bool}
inductive kB(K:Frag)(H:Hp):V->Value->Prop where
 | gm:kB K H .gm (.type "NoneType")
 | bl (x:Bool):kB K H (.bl x) (.type "bool")
 | int (i:Int):kB K H (.int i) (.type "int")
 | str (x:Str):kB K H (.str x) (.type "str")
 | TY (x:UInt64):kB K H (.TY x) (.type "float")
 | lst {a:Addr} {xs:List V} (e:H a=some (.lst xs)):kB K H (.ref a) (.type "list")
 | JC {a:Addr} {o:Obj} {xs:List V} (e:H a=some (.JC o (.lst xs))):kB K H (.ref a) (.type "list")
 | tup {a:Addr} {xs:List V} (e:H a=some (.tup xs)):kB K H (.ref a) (.type "tuple")
 | dK {a:Addr} {kvs:List (eT × V)} (e:H a=some (.dK kvs)):kB K H (.ref a) (.type "dict")
 | dT {a:Addr} {kvs:List (List eT × V)} (e:H a=some (.dT kvs)):kB K H (.ref a) (.type "dict")
 | ins {a C dx:Addr} {fs:List (Str × V)} (e:H a=some (.ins C dx fs)) (cl:MS K C) (ha:findIn K (.ref C) "__class__"=some (some (.builtin "object.__class__")))
   (hn:PySem.W.specialIn K (.builtin "object.__class__") "__get__"=some (some (.builtin "getset_descriptor.__get__"))) (htk:PySem.W.takesIn K (.builtin "object.__class__")=some true)
   (hm:mroIn K C (.type "object")=some true):kB K H (.ref a) (.ref C)
theorem Lb{x:V}{u t:Value}(I:Inv X ao σ H s)(rx:RelV x u)(ty:kB X.K H x t)(e:kitOne X.K t c=some b)(h:∀ tk,Q (.bool b) { s with toks:=tk }) :
  wpAny (model X.prog X.w) A (call (.builtin "isinstance") [u,c]) Q E s:=by
 cases ty with
 | gm=>cases (show u=Value.none from rx);exact kia_one PySem.W.kitx_none I.xR True.intro e (λz=>nomatch z) h
 | bl y=>cases (show u=Value.bool y from rx);exact kia_one PySem.W.kitx_bool I.xR True.intro e (λz=>nomatch z) h
 | int i=>obtain⟨t,q⟩:=(show ∃ t,u=Value.int i t from rx);cases q;exact kia_one PySem.W.kitx_int I.xR True.intro e (λz=>nomatch z) h
 | str y=>obtain⟨t,q⟩:=(show ∃ t,u=Value.str y t from rx);cases q;exact kia_one PySem.W.kitx_str I.xR True.intro e (λz=>nomatch z) h
 | TY y=>obtain⟨t,q⟩:=(show ∃ t,u=Value.float y t from rx);cases q;exact kia_one PySem.W.kitx_float I.xR True.intro e (λz=>nomatch z) h
 | @lst a xs ea =>
  cases (show u=Value.ref a from rx);obtain⟨_,_,n,_,h1⟩:=(show fR X.prog X.w H s.heap a (.lst xs) from I.hok a _ ea);exact kia_one kitx_list I.xR ⟨_,h1,rfl⟩ e (λz=>nomatch z) h
 | @JC a ob xs ea =>
  cases (show u=Value.ref a from rx);obtain⟨_,_,_,n,_,h1⟩:=(show fR X.prog X.w H s.heap a (.JC ob (.lst xs)) from I.hok a _ ea);exact kia_one kitx_list I.xR ⟨_,h1,rfl⟩ e (λz=>nomatch z) h
 | @tup a xs ea =>
  cases (show u=Value.ref a from rx);obtain⟨_,_,_,p⟩:=(show fR X.prog X.w H s.heap a (.tup xs) from I.hok a _ ea);obtain⟨o,h1,h2,_⟩:=p;exact kia_one PySem.W.kitx_tuple I.xR ⟨o,h1,h2⟩ e (λz=>nomatch z) h
 | @dK a kvs ea =>
  cases (show u=Value.ref a from rx);obtain⟨_,_,vs,_,p⟩:=(show fR X.prog X.w H s.heap a (.dK kvs) from I.hok a _ ea);obtain⟨o,es,ep,h1,h2,_⟩:=p;exact kia_one kitx_dict I.xR ⟨o,h1,h2.1⟩ e (λz=>nomatch z) h
 | @dT a kvs ea =>
  cases (show u=Value.ref a from rx);obtain⟨_,_,xs,_,o,es,ep,h1,h2,_⟩:=(show fR X.prog X.w H s.heap a (.dT kvs) from I.hok a _ ea);exact kia_one kitx_dict I.xR ⟨o,h1,h2.1⟩ e (λz=>nomatch z) h
 | @ins a C dx fs ea cl ha hn htk hm =>
  cases (show u=Value.ref a from rx);obtain⟨mA,O,_⟩:=yR I.hok ea;obtain⟨od,J,_⟩:=O.look;exact kia_one (PySem.W.kitx_own (cl.get _) cl.hd ha hn htk hm) I.xR J e (λz=>nomatch z) h
end
end L2
namespace L2
open Spec Rows
structure jg(k:Nat)(A:Around):Prop where
 hd:A.handled=none
 dp:A.depth+3*k+5<recursionLimit
 un:A.units+16*k+200<cLine
theorem jg.mono{j k:Nat}{A:Around}(r:jg k A)(h:j<=k):jg j A:=⟨r.hd,by have:=r.dp;lia,by have:=r.un;lia⟩
theorem jg.deeper{k:Nat}{A:Around}(r:jg (k+1) A)(env:Env):jg k (A.deeper env) :=
 ⟨r.hd,by have:=r.dp;show A.depth+1+3*k+5<_;lia,by have:=r.un;show A.units+3+16*k+200<_;lia⟩
theorem Hj{A:Around}{us:List Value}{kw:List (Str × Value)}:(A.under (.builtin "type.__call__" ⟨.ref C::us,kw⟩)).depth=A.depth+1:=by
 first|rfl|simp[Around.under,Code.weight,Code.isCreation,Code.isGuard,Code.isCaller,Code.frames,Code.isFrame,guardIds]
theorem Hl{A:Around}{us:List Value}{kw:List (Str × Value)}:(A.under (.builtin "type.__call__" ⟨.ref C::us,kw⟩)).units=A.units+1:=by
 first|rfl|simp[Around.under,Code.cUnits,Code.frames,Code.isFrame]
theorem jg.make{k:Nat}{A:Around}(r:jg (k+1) A)(C:Addr)(us:List Value)(kw:List (Str × Value)):jg k (A.under (.builtin "type.__call__" ⟨.ref C::us,kw⟩)) :=
 ⟨r.hd,by have:=r.dp;rw[Hj];lia,by have:=r.un;rw[Hl];lia⟩
theorem jg.depth{k:Nat}{A:Around}(r:jg k A):A.depth<recursionLimit:=by have:=r.dp;lia
theorem jg.units{k:Nat}{A:Around}(r:jg k A):A.units+64<cLine:=by have:=r.un;lia
def zo:TA:=λ_ H Q=>Q [] H
def Ny(ta:TE)(tr:TA):TA:=fun σ H Q=>ta σ H λx H1=>tr σ H1 λxs H2=>Q (x::xs) H2
section
variable {X:Cx} {e:Expr} {es:List Expr} {te:TE} {t:TA} {pos:Pos}
theorem ah:PA X [] zo:=λ_ _ _ _ H Q I h=>Calls.spliced_nil ⟨[],H,I,.nil,h⟩
theorem aa(ha:PE X e te)(hr:PA X es t)(hs:starEach (e::es) X.env=(false,eval e X.env)::starEach es X.env:=by rfl):PA X (e::es) (Ny te t):=by
 intro pos ao s σ H Q I h;rw[hs];show wpAny _ _ (spliced ((false,eval e X.env)::backTo pos (starEach es X.env))) _ _ s;refine Calls.spliced_cons (c9 (ha ao s σ H _ I h) λu s1 G7=>?_);obtain⟨x,H1,I1,r1,q1⟩:=G7;exact c9 (hr pos ao s1 σ H1 _ I1 q1) λus s2 ⟨xs,H2,I2,r2,q2⟩=>⟨x::xs,H2,I2,.cons r1 r2,q2⟩
def ac0(t:TA):TE:=fun σ H Q=>t σ H λxs H1=>xs.length<=sizeLine/\∀ p,H1 p=none->Q (.ref p) (aM H1 p (.tup xs))
def Lc(t:TA):TE:=fun σ H Q=>t σ H λxs H1=>xs.length<=sizeLine/\∀ p,H1 p=none->Q (.ref p) (aM H1 p (.lst xs))
theorem cJ{x1}(h:PA X es t):PE X (.Tuple es x1 pos) (ac0 t):=by
 intro ao s σ H Q I hq;refine wpAny_Tuple_spliced (c9 (h pos ao s σ H _ I hq) λus s1 ⟨xs,H1,I1,r,z,q⟩=>⟨by rw[← r.length];exact z,?_⟩);have hf:H1 s1.heap.objs.size=none:=I1.hok.fresh (fH _);refine⟨.ref s1.heap.objs.size,aM H1 s1.heap.objs.size (.tup xs),I1.laid (t':=s1.toks) (λb u e=>Heap.get?_push_of_some _ e) (fH _) ?_,rfl,q _ hf⟩;exact⟨z,us,r,⟨_,Heap.get?_push_size _ rfl,rfl,Y⟩⟩
theorem bM(h:PA X es t):PE X (.List es pos) (Lc t):=by
 intro ao s σ H Q I hq;refine wpAny_List_spliced (c9 (h pos ao s σ H _ I hq) λus s1 ⟨xs,H1,I1,r,z,q⟩=>⟨by rw[← r.length];exact z,?_⟩);have hf:H1 s1.heap.objs.size=none:=I1.hok.fresh (fH _);refine⟨.ref s1.heap.objs.size,aM H1 s1.heap.objs.size (.lst xs),I1.laid (t':=s1.toks) (λb u e=>Heap.get?_push_of_some _ e) (fH _) ?_,rfl,q _ hf⟩;exact⟨z,us,0,r,Heap.get?_push_size _ rfl⟩
end
abbrev Sp:=List V->Hp->VK->XK->Prop
abbrev Nz:=List Env->Hp->Shared->XK->Value->Shared->Prop
structure Ho(P:Program)(w:World)(K:Frag)(mg:Str->Option Value)(zt:Heap)(A:Around)(zn:List Env)(s:Shared)(H:Hp):Prop where
 frames:A.frames=some zn
 mod:Mod K mg zt
 bs:∀ b o,zt.get? b=some o->s.heap.get? b=some o/\H b=none
 T3:zt.objs.size<=s.heap.objs.size
 yv:s.heap.FunFrames zt zn
 Vg:∀ b∈Nf zn,H b=none
 hok:vd P w H s.heap
 bare:AllBare s.gens
def CE(zn:List Env)(P:Program)(w:World)(H:Hp)(s:Shared)(Q:VK)(u:Value)(s':Shared):Prop :=
 ∃ v H',s'.os=s.os/\AllBare s'.gens/\Un (Nf zn) [] H H' s.heap s'.heap/\vd P w H' s'.heap/\RelV v u/\Q v H'
def CR(CX:Nz)(zn:List Env)(P:Program)(w:World)(H:Hp)(s:Shared)(Q:VK)(E:XK)(r:Result)(s':Shared):Prop :=
 match r with
 | .ok (.ret u)=>CE zn P w H s Q u s'
 | .ok _=>False
 | .error e=>CX zn H s E e s'
structure bq(P:Program)(w:World)(K:Frag)(mg:Str->Option Value)(zt:Heap)(CX:Nz)(k:Nat)(f:Addr)(fd:FuncData)(ps:List Str)(sp:Sp):Prop where
 len:∀ vs H Q E,sp vs H Q E->vs.length=ps.length
 run:∀ (A:Around) (zn:List Env) (s:Shared) (H:Hp) (args:Args) (us:List Value) (vs:List V) (Q:VK) (E:XK),jg k A->Ho P w K mg zt A zn s H->BindsTo s fd args (ps.zip us)->cA vs us->sp vs H Q E->
  codeAny (model P w) A (.call (.ref f) args) (CR CX zn P w H s Q E) s
theorem Ho.make{P:Program}{w:World}{K:Frag}{mg:Str->Option Value}{zt:Heap}{A:Around}{zn:List Env}{s:Shared}{H:Hp}(e:Ho P w K mg zt A zn s H)(C:Addr)(us:List Value)(kw:List (Str × Value)) :
  Ho P w K mg zt (A.under (.builtin "type.__call__" ⟨.ref C::us,kw⟩)) zn s H:=⟨by first|exact e.frames|(simpa [Around.under,Code.envs,Code.isFrame,pushEnvs] using e.frames),e.mod,e.bs,e.T3,e.yv,e.Vg,e.hok,e.bare⟩
section
variable {X:Cx} {ao:List (Addr × Obj)} {σ:St} {H:Hp} {s s':Shared}
theorem Inv.YT(I:Inv X ao σ H s):Ho X.prog X.w X.K X.mg X.zt X.A X.stack s H :=
 ⟨I.ok.frames,I.ok.mod,I.bs,gR I.ok.T3 I.sz,I.stack,I.JD,I.hok,I.bare⟩
theorem Inv.after{Q:VK}{u:Value}(I:Inv X ao σ H s)(h:CE X.stack X.prog X.w H s Q u s'):EP X ao σ Q u s':=by
 obtain⟨v,H',os,bare,un,hok,r,q⟩:=h;obtain⟨hh,g,d,t,os'⟩:=s';obtain rfl:os'=s.os:=os;exact⟨v,H',I.call (h':=hh) (g':=g) (d':=d) (t':=t) (ch:=[]) un hok bare (λb z=>absurd z (by simp)),r,q⟩
end
def JN(sp:Sp)(zp:List V)(E:XK)(t:TA):TE:=fun σ H Q=>t σ H λvs H1=>sp (vs++zp) H1 Q E
inductive Vz(C:Addr)(m:Str)(x:V)(H:Hp)(N:Prop):Prop
 | mk (a dx:Addr) (fs:List (Str × V)) (_:x=.ref a) (_:H a=some (.ins C dx fs)) (_:fs.lookup m=none) (_:N):Vz C m x H N
def JO(C:Addr)(m:Str)(sp:Sp)(zp:List V)(E:XK)(ta:TE)(t:TA):TE:=fun σ H Q=>ta σ H λx H1=>Vz C m x H1 (t σ H1 λvs H2=>sp (x::(vs++zp)) H2 Q E)
def YU(C:Addr)(sp:Sp)(zp:List V)(E:XK)(t:TA):TE:=fun σ H Q=>t σ H λvs H1=>∀ x dx,H1 x=none->H1 dx=none->dx≠x->
 sp (.ref x::(vs++zp)) (aM (aM H1 dx (.own x)) x (.ins C dx [])) (λv H2=>v=.gm/\Q (.ref x) H2) E
def Binds(K:Frag)(fd:FuncData)(ps:List Str)(ds:List Value):Prop :=
 ∀ (s:Shared) (us:List Value),K.In s.heap->(us++ds).length=ps.length->BindsTo s fd ⟨us,[]⟩ (ps.zip (us++ds))
theorem Binds.all{K:Frag}{ps:List Str}(h:∀ us:List Value,us.length=ps.length->bindArgs fd ⟨us,[]⟩=pure (ps.zip us)):Binds K fd ps []:=λs us _ hl=>by
 rw[gK]at hl ⊢;exact .of_eq (h us hl)
def nX(CX:Nz)(X:Cx)(E:XK):Prop:=∀ (ao:List (Addr × Obj)) (σ:St) (H:Hp) (s:Shared) (e:Value) (s':Shared),Inv X ao σ H s->CX X.stack H s E e s'->X.xe e s'
section
variable {X:Cx} {CX:Nz} {k:Nat} {f C:Addr} {fd:FuncData} {ps:List Str} {sp:Sp} {zp:List V} {ds:List Value} {E:XK} {x m:Str} {p pos lU:Pos} {e o:Expr} {es:List Expr} {ta:TE} {t:TA}
theorem CO{σ:St}{H:Hp}{s:Shared}{Q:VK}{us:List Value}{vs:List V}(F:bq X.prog X.w X.K X.mg X.zt CX k f fd ps sp)(hr:jg k X.A)(hb:Binds X.K fd ps ds)(hd:cA zp ds)(hx:nX CX X E)
  (I:Inv X ao σ H s) (r:cA vs us) (h:sp (vs++zp) H Q E):wpAny (model X.prog X.w) X.A (call (.ref f) us) (EP X ao σ Q) X.xe s:=by
 have r2:cA (vs++zp) (us++ds):=r.append hd;have hl:(us++ds).length=ps.length:=by rw[← r2.length];exact F.len _ _ _ _ h
 refine wpAny_call (codeAny_mono (F.run X.A X.stack s H ⟨us,[]⟩ (us++ds) (vs++zp) Q E hr I.YT (hb s us I.xR hl) r2 h) λr s' hq=>?_)
 cases r with
 | error e=>exact hx ao σ H s e s' I hq
 | ok fl =>
  cases fl with
  | ret u=>exact I.after hq
  | next=>exact False.elim hq
  | brk=>exact False.elim hq
  | cont=>exact False.elim hq
theorem JP(F:bq X.prog X.w X.K X.mg X.zt CX k f fd ps sp)(hr:jg k X.A)(hg:Gl X x)(hm:X.mg x=some (.ref f))(hk:keepIn X.K (.ref f)=true)(hb:Binds X.K fd ps ds)(hd:cA zp ds)(hx:nX CX X E)
  (ha:PA X (e::es) t) (Ld:(x == ("__debug__":Str))=false:=by decide) (he:starEach (e::es) X.env=(false,eval e X.env)::starEach es X.env:=by rfl) (Er:(backTo pos (starEach es X.env)).any (·.1)=false:=by rfl) :
  PE X (.Call (.Name x p) (e::es) [] pos) (JN sp zp E t):=by
 intro ao s σ H Q I h;refine wpAny_Call_Name_kw (yQ I hg hm ?_ Ld);refine callWith_K (h₀:=X.zt) I.ok.mod.kin hk (c9 (ha pos ao s σ H _ I h) λus s1 ⟨vs,H1,I1,r,q⟩=>⟨I1.xR,?_⟩) he Er;exact CO F hr hb hd hx I1 r q
theorem NB(F:bq X.prog X.w X.K X.mg X.zt CX k f fd ps sp)(hr:jg k X.A)(hg:Gl X x)(hm:X.mg x=some (.ref f))(hk:keepIn X.K (.ref f)=true)(hb:Binds X.K fd ps ds)(hd:cA zp ds)(hx:nX CX X E)
  (Ld:(x == ("__debug__":Str))=false:=by decide):PE X (.Call (.Name x p) [] [] pos) (JN sp zp E zo):=by
 intro ao s σ H Q I h;refine wpAny_Call_Name_kw (yQ I hg hm ?_ Ld);exact callWith_K0 I.xR hk (CO (us:=[]) F hr hb hd hx I .nil h)
theorem QZ{pl:Sem Bool}(he:PE X o ta)(c:MS X.K C)(hm:Nv X.K C m f)(F:bq X.prog X.w X.K X.mg X.zt CX k f fd ps sp)(hr:jg k X.A)(hb:Binds X.K fd ps ds)(hd:cA zp ds)(hx:nX CX X E)(ha:PA X (e::es) t)
  (CN:starEach (e::es) X.env=(false,eval e X.env)::starEach es X.env:=by rfl) (Er:(backTo pos (starEach es X.env)).any (·.1)=false:=by rfl)
  (ht:eval (.Call (.Attribute o m lU) (e::es) [] pos) X.env=(do
   let ov ← eval o X.env
   standAt lU.atName
   let (f,first) ← holding [ov] (getMethod ov m pl)
   callWith pos f first (backTo pos (starEach (e::es) X.env)) (backToKw pos (keywordEach [] X.env))):=by rfl) :
  PE X (.Call (.Attribute o m lU) (e::es) [] pos) (JO C m sp zp E ta t):=by
 intro ao s σ H Q I h;refine methodCall_KW (pl:=pl) (c9 (he ao s σ H _ I h) λu s1 ⟨x,H1,I1,rx,a,dx,fs,ex,ea,l,q⟩=>?_) ht;subst ex;obtain rfl:u=Value.ref a:=rx;refine zl I1 ea c hm l ?_
 refine callWith_K (first:=[.ref a]) (h₀:=X.zt) I.ok.mod.kin hm.kp (c9 (ha pos ao s1 σ H1 _ I1 q) λus s2 ⟨vs,H2,I2,r,q2⟩=>⟨I2.xR,?_⟩) CN Er
 exact CO (us:=.ref a::us) (vs:=.ref a::vs) F hr hb hd hx I2 (.cons rfl r) q2
theorem NC{pl:Sem Bool}(he:PE X o ta)(c:MS X.K C)(hm:Nv X.K C m f)(F:bq X.prog X.w X.K X.mg X.zt CX k f fd ps sp)(hr:jg k X.A)(hb:Binds X.K fd ps ds)(hd:cA zp ds)(hx:nX CX X E)
  (ht:eval (.Call (.Attribute o m lU) [] [] pos) X.env=(do
   let ov ← eval o X.env
   standAt lU.atName
   let (f,first) ← holding [ov] (getMethod ov m pl)
   callWith pos f first (backTo pos (starEach [] X.env)) (backToKw pos (keywordEach [] X.env))):=by rfl) :
  PE X (.Call (.Attribute o m lU) [] [] pos) (JO C m sp zp E ta zo):=by
 intro ao s σ H Q I h;refine methodCall_KW (pl:=pl) (c9 (he ao s σ H _ I h) λu s1 ⟨x,H1,I1,rx,a,dx,fs,ex,ea,l,q⟩=>?_) ht;subst ex;obtain rfl:u=Value.ref a:=rx;refine zl I1 ea c hm l ?_
 exact callWith_K0 (first:=[.ref a]) I1.xR hm.kp (CO (us:=[.ref a]) (vs:=[.ref a]) F hr hb hd hx I1 (.cons rfl .nil) q)
structure Mk(K:Frag)(C f:Addr):Prop where
 makes:makesIn K C=true
 init:findIn K (.ref C) "__init__"=some (some (.ref f))
 fn:isFn K (.ref f)=true
 kp:keepIn K (.ref C)=true
theorem ND{σ:St}{H:Hp}{s:Shared}{Q:VK}{us:List Value}{vs:List V}(M:Mk X.K C f)(F:bq X.prog X.w X.K X.mg X.zt CX k f fd ps sp)(hr:jg (k+1) X.A)(hb:Binds X.K fd ps ds)(hd:cA zp ds)
  (hx:nX CX X E) (I:Inv X ao σ H s) (r:cA vs us)
  (h:∀ x dx,H x=none->H dx=none->dx≠x->sp (.ref x::(vs++zp)) (aM (aM H dx (.own x)) x (.ins C dx [])) (λv H2=>v=.gm/\Q (.ref x) H2) E) :
  wpAny (model X.prog X.w) X.A (call (.ref C) us) (EP X ao σ Q) X.xe s:=by
 have hq:=h (s.heap.objs.size+1) s.heap.objs.size (I.hok.fresh (Nat.le_succ _)) (I.hok.fresh (fH _)) (jS (Nat.lt_succ_self _));have I2:=Inv.made (C:=C) I;have r2:cA (V.ref (s.heap.objs.size+1)::(vs++zp)) (Value.ref (s.heap.objs.size+1)::(us++ds)):=.cons rfl (r.append hd)
 have hl:(Value.ref (s.heap.objs.size+1)::us++ds).length=ps.length:=by
  have e:=r2.length;rw[F.len _ _ _ _ hq]at e;exact e.symm
 refine wpAny_call (Nu (f:=f) I.xR M.makes M.init (beq_iff_eq.mp M.fn) (codeAny_mono (F.run _ X.stack _ _ ⟨Value.ref (s.heap.objs.size+1)::us,[]⟩ (Value.ref (s.heap.objs.size+1)::(us++ds)) _ _ E (hr.make C us []) (I2.YT.make C us []) (hb _ (Value.ref (s.heap.objs.size+1)::us) I2.xR hl) r2 hq) λr s' VA=>?_))
 cases r with
 | error e=>exact hx ao σ _ _ e s' I2 VA
 | ok fl =>
  cases fl with
  | ret u =>
   obtain⟨v,H',I3,rv,ev,q3⟩:=I2.after VA;subst ev;exact⟨rv,⟨V.ref (s.heap.objs.size+1),H',I3,rfl,q3⟩⟩
  | next=>exact False.elim VA
  | brk=>exact False.elim VA
  | cont=>exact False.elim VA
theorem mK(M:Mk X.K C f)(F:bq X.prog X.w X.K X.mg X.zt CX k f fd ps sp)(hr:jg (k+1) X.A)(hg:Gl X x)(hm:X.mg x=some (.ref C))(hb:Binds X.K fd ps ds)(hd:cA zp ds)(hx:nX CX X E)
  (Ld:(x == ("__debug__":Str))=false:=by decide):PE X (.Call (.Name x p) [] [] pos) (YU C sp zp E zo):=by
 intro ao s σ H Q I h;refine wpAny_Call_Name_kw (yQ I hg hm ?_ Ld);exact callWith_K0 I.xR M.kp (ND (us:=[]) M F hr hb hd hx I .nil h)
end
structure aH(N P:List Str)(sc:Scope):Prop where
 kind:sc.kind=.function
 co:sc.isCoroutine=false
 gen:sc.isGenerator=false
 nd:N.Nodup
 pre:N.take P.length=P
 par:∀ x∈P,sc.names.lookup x=some .local\/sc.names.lookup x=some .cell
 VB:∀ y∈sc.names,y.2≠.free
theorem BD{kindOf:Str->Option NameKind}{x:Str}:∀ {binds:List (Str × Value)} {m:Str->Option Value},(∀ v,(x,v)∉binds)->bindL kindOf binds m x=m x
 | [],_,_=>rfl
 | (n,v)::r,m,h=>by
  unfold bindL;rw[BD λw hw=>h w (mE _ hw)];split
  ·have:x≠n:=by rintro rfl;exact h v List.mem_cons_self
   simp[this]
  ·rfl
theorem BE{kindOf:Str->Option NameKind}{x:Str}:∀ {binds:List (Str × Value)} {m:Str->Option Value},(∀ v,(x,v)∉binds)->bindC kindOf binds m x=m x
 | [],_,_=>rfl
 | (n,v)::r,m,h=>by
  unfold bindC;rw[BE λw hw=>h w (mE _ hw)];split
  ·rfl
  ·have:x≠n:=by rintro rfl;exact h v List.mem_cons_self
   simp[this]
theorem BF{kindOf:Str->Option NameKind}{x:Str}{v:Value}:∀ {P:List Str} {vs:List Value} {i:Nat} {m:Str->Option Value},P.Nodup->P[i]?=some x->vs[i]?=some v->kindOf x=some .local->
  bindL kindOf (P.zip vs) m x=some v
 | [],_,_,_,_,h,_,_=>by simp at h
 | _::_,[],_,_,_,_,h,_=>by simp at h
 | p::P,w::vs,0,m,nd,h1,h2,hk=>by
  simp at h1 h2;subst h1;subst h2;show bindL kindOf ((p,w)::P.zip vs) m p=_;unfold bindL;rw[BD λv hv=>(List.nodup_cons.mp nd).1 (List.of_mem_zip hv).1,if_pos hk];simp
 | p::P,w::vs,i+1,m,nd,h1,h2,hk=>by
  show bindL kindOf ((p,w)::P.zip vs) m x=_;unfold bindL;exact BF (i:=i) (List.nodup_cons.mp nd).2 (by simpa using h1) (by simpa using h2) hk
theorem BG{kindOf:Str->Option NameKind}{x:Str}{v:Value}:∀ {P:List Str} {vs:List Value} {i:Nat} {m:Str->Option Value},P.Nodup->P[i]?=some x->vs[i]?=some v->kindOf x≠some .local->
  bindC kindOf (P.zip vs) m x=some v
 | [],_,_,_,_,h,_,_=>by simp at h
 | _::_,[],_,_,_,_,h,_=>by simp at h
 | p::P,w::vs,0,m,nd,h1,h2,hk=>by
  simp at h1 h2;subst h1;subst h2;show bindC kindOf ((p,w)::P.zip vs) m p=_;unfold bindC;rw[BE λv hv=>(List.nodup_cons.mp nd).1 (List.of_mem_zip hv).1,if_neg hk];simp
 | p::P,w::vs,i+1,m,nd,h1,h2,hk=>by
  show bindC kindOf ((p,w)::P.zip vs) m x=_;unfold bindC;exact BG (i:=i) (List.nodup_cons.mp nd).2 (by simpa using h1) (by simpa using h2) hk
def start(N:List Str)(vs:List V):St:=vs.map some++List.replicate (N.length-vs.length) none
def Hq(CX:Nz)(P:Program)(w:World)(K:Frag)(mg:Str->Option Value)(zt:Heap)(N:List Str)(fJ:Str)(scope:Scope)(f:Addr)(cd:Value)(A:Around)(zn:List Env)(s:Shared)(H:Hp)(E:XK):Cx where
 prog:=P
 w:=w
 K:=K
 mg:=mg
 zt:=zt
 A:=A.deeper (envOfC fJ scope s.heap.objs.size f cd)
 N:=N
 s₀:=s
 H₀:=H
 env:=envOfC fJ scope s.heap.objs.size f cd
 zn:=zn
 stack:=envOfC fJ scope s.heap.objs.size f cd::zn
 ex:=[]
 calm:=true
 fn:=λ_=>true
 pn:=[]
 xe:=λe s'=>wpAny (model P w) (A.deeper (envOfC fJ scope s.heap.objs.size f cd)) (leaving (envOfC fJ scope s.heap.objs.size f cd) e) (λ_ s''=>CX zn H s E e s'') (λe' s''=>CX zn H s E e' s'') s'
theorem EJ{sc:Scope}{n:Nat}{x:Str}(h:sc.names.lookup x=some .cell):∃ c,(cellsFrom n sc.names []).lookup x=some c:=by
 have q:=cellsFrom_some sc.names n [] (.inl h);exact Option.isSome_iff_exists.mp q
theorem Lf{CX:Nz}{P:Program}{w:World}{K:Frag}{mg:Str->Option Value}{zt:Heap}{N ps:List Str}{fJ:Str}{scope:Scope}{f:Addr}{cd:Value}{A:Around}{zn:List Env}{s s1:Shared}{H:Hp}{E:XK}{us:List Value}{vs:List V}
  (S:aH N ps scope) (hd:A.handled=none) (e0:Ho P w K mg zt A zn s H) (hl:vs.length=ps.length) (r:cA vs us)
  (x:InCallC s s.heap.objs.size (bindL (envOfC fJ scope s.heap.objs.size f cd).kindOf (ps.zip us) λ_=>none) (cellsFrom (s.heap.objs.size+1) scope.names []) (bindC (envOfC fJ scope s.heap.objs.size f cd).kindOf (ps.zip us) λ_=>none) s1) :
  Inv (Hq CX P w K mg zt N fJ scope f cd A zn s H E) [] (start N vs) H s1:=by
 have Er:ps.length<=N.length:=by have:=congrArg List.length S.pre;rw[gB]at this;lia
 obtain⟨h1,tk,rfl,hk⟩:=x.done;have YV:∀ b:Addr,b∉(Hq CX P w K mg zt N fJ scope f cd A zn s H E).ex:=λb z=>absurd (show b∈([]:List Addr) from z) (by simp)
 exists ⟨e0.mod,S.kind,V,fH _,λy z c h1 h2=>?_,λy hy=>?_,λy c _ h=>?_,λ_=>hd,Around.frames_deeper e0.frames,.inr ⟨V⟩,λb z=>absurd z (YV b),e0.bs,e0.T3,λb _ _=>YV b,λb z=>absurd z (YV b),e0.yv,e0.Vg⟩,
  rfl,e0.bare,Un.kept hk,⟨_,x.toInCall.ns,λi y v h1 h2 h3=>?_⟩,λy c h=>⟨_,x.cell y c h⟩,e0.hok.fresh (fH _),λy c h=>?_,λp hp=>absurd (show p∈([]:List (Addr × Obj)) from hp) (by simp),e0.hok.kept hk
 ·exact name_of_addr x.apart (PySem.mem_of_lookup h1) (PySem.mem_of_lookup h2)
 ·have hy:scope.names.lookup y=some .cell\/scope.names.lookup y=some .free:=hy;rcases hy with hy|hy
  ·exact EJ hy
  ·exact absurd rfl (S.VB _ (PySem.mem_of_lookup hy))
 ·exact gM (x.above y c (PySem.mem_of_lookup h))
 ·have hi:i<vs.length:=by
   unfold start at h2;by_cases hi:i<vs.length
   ·exact hi
   ·rw[List.getElem?_append_right (by simpa using hi)]at h2;rw[List.getElem?_replicate]at h2
    split at h2 <;> cases h2
  have ha:vs[i]?=some v:=by
   unfold start at h2;rw[List.getElem?_append_left (by simpa using hi),fP]at h2
   cases e:vs[i]? with
   | none=>rw[e]at h2;cases h2
   | some a=>rw[e]at h2;cases h2;rfl
  obtain⟨u,hu,rv⟩:=r.get ha
  have hp:ps[i]?=some y:=by
   rw[← S.pre,List.getElem?_take_of_lt ∅];exact h1
  have ndP:ps.Nodup:=by rw[← S.pre];exact S.nd.sublist (List.take_sublist _ _)
  exists u,rv;rcases S.par y (pA hp) with k|k
  ·exact .inl ⟨k,BF ndP hp hu k⟩
  ·obtain⟨c,e⟩:=EJ (n:=s.heap.objs.size+1) k;refine .inr ⟨.inl k,c,e,?_⟩;have q:=x.cell y c e;rw[BG ndP hp hu (by show scope.names.lookup y≠_;rw[k];decide)]at q;exact q
 ·exact e0.hok.fresh (gM (x.above y c (PySem.mem_of_lookup h)))
 ·unfold start;show _=N.length;rw[cP,cz,wG];lia
theorem YW{CX:Nz}{P:Program}{w:World}{K:Frag}{mg:Str->Option Value}{zt:Heap}{k:Nat}{f:Addr}{name fJ:Str}{params:Arguments}{scope:Scope}{dV kV xU pm dm ct oc:Value}{an od:Option Addr}
  {MT:Array (Option Value)} {N ps:List Str} {sp:Sp} (lk:K.lookup f=some ⟨oc,od,.func (fnOf name fJ params body scope dV kV xU pm an dm ct),MT⟩) (Nh:codeIn K dm fJ=true) (S:aH N ps scope)
  (len:∀ vs H Q E,sp vs H Q E->vs.length=ps.length)
  (EK:∀ (A:Around) (zn:List Env) (s:Shared) (H:Hp) (vs:List V) (Q:VK) (E:XK),jg k (A.deeper (envOfC fJ scope s.heap.objs.size f dm))->sp vs H Q E->
   ∃ t,JG (Hq CX P w K mg zt N fJ scope f dm A zn s H E) body t/\t { nx:=λ_ H'=>Q .gm H',rt:=Q } (start N vs) H) :
  bq P w K mg zt CX (k+1) f (fnOf name fJ params body scope dV kV xU pm an dm ct) ps sp:=by
 refine⟨len,λA zn s H args us vs Q E hr e0 hb r Lg=>?_⟩;have hl:=len _ _ _ _ Lg;have KX:K.In s.heap:=e0.mod.kin.keeps λb o e=>(e0.bs b o e).1;have lim:s.heap.NoLimit:=e0.mod.nolimit.keeps λb o e=>(e0.bs b o e).1
 have hkind:∀ y∈ps.zip us,scope.names.lookup y.1=some .local\/(scope.names.lookup y.1=some .cell/\((cellsFrom (s.heap.objs.size+1) scope.names []).lookup y.1).isSome=true):=λ⟨n,v⟩ hy=>by
  rcases S.par n (List.of_mem_zip hy).1 with q|q
  ·exact .inl q
  ·exact .inr ⟨q,cellsFrom_some _ _ _ (.inl q)⟩
 refine codeAny_call_function hr.depth (KX _ _ lk) rfl S.co S.gen rfl (PySem.W.codeRec_of KX Nh) (hb _ _ _ _ ?_);refine wpAny_newFunctionEnv_cells S.kind hkind λenv he s1 x=>?_;subst he;refine⟨lim.keeps x.toInCall.keep,codeAny_func ?_⟩;obtain⟨t,ht,hq⟩:=EK A zn s H vs Q E (hr.deeper _) Lg;have I:Inv (Hq CX P w K mg zt N fJ scope f dm A zn s H E) [] (start N vs) H s1:=Lf S hr.hd e0 hl r x;refine wpAny_mono (ht [] s1 (start N vs) H _ I hq) (λfl s' hs=>?_) λe s' hs=>hs;have jN:∀ {σ':St} {H':Hp} {v:V} {u:Value},Inv (Hq CX P w K mg zt N fJ scope f dm A zn s H E) [] σ' H' s'->RelV v u->Q v H'->CE zn P w H s Q u s' := λ{σ' H' v u} J rv q=>⟨v,H',J.os,J.bare,J.zt,J.hok,rv,q⟩
 cases fl with
 | ret u =>
  obtain⟨v,σ',H',J,rv,q⟩:=hs;exact jN J rv q
 | next =>
  obtain⟨σ',H',J,q⟩:=hs;exact jN (v:=V.gm) (u:=Value.none) J rfl q
 | brk =>
  obtain⟨_,_,_,q⟩:=hs;exact False.elim q
 | cont =>
  obtain⟨_,_,_,q⟩:=hs;exact False.elim q
end L2
namespace L2
open Spec Rows
section
variable {X:Cx} {x:Str} {p pos:Pos} {e:Expr} {es:List Expr} {t:TA} {id T:String} {r:List V->Hp->VK->Prop}
def tCB(r:List V->Hp->VK->Prop)(t:TA):TE:=fun σ H Q=>t σ H λvs H1=>r vs H1 Q
theorem b9(hc:jV X (.builtin id) r)(hg:Gl X x)(hm:X.mg x=none)(hv:bootBuiltins x=some (.builtin id))(ha:PA X (e::es) t)(hn:x≠"__name__":=by decide)(Ld:(x == ("__debug__":Str))=false:=by decide)
  (he:starEach (e::es) X.env=(false,eval e X.env)::starEach es X.env:=by rfl) (Er:(backTo pos (starEach es X.env)).any (·.1)=false:=by rfl):PE X (.Call (.Name x p) (e::es) [] pos) (tCB r t):=by
 intro ao s σ H Q I h;refine wpAny_Call_Name_kw (zf I hg hm hv ?_ hn Ld);exact PyProof.Rows.callWith_builtin1 (c9 (ha pos ao s σ H _ I h) λus s1 ⟨vs,H1,I1,r1,q1⟩=>hc ao s1 σ H1 vs us Q I1 r1 q1) he Er
theorem cR(hc:jV X (.type T) r)(hg:Gl X x)(hm:X.mg x=none)(hv:bootBuiltins x=some (.type T))(ha:PA X (e::es) t)(hn:x≠"__name__":=by decide)(Ld:(x == ("__debug__":Str))=false:=by decide)
  (he:starEach (e::es) X.env=(false,eval e X.env)::starEach es X.env:=by rfl) (Er:(backTo pos (starEach es X.env)).any (·.1)=false:=by rfl):PE X (.Call (.Name x p) (e::es) [] pos) (tCB r t):=by
 intro ao s σ H Q I h;refine wpAny_Call_Name_kw (zf I hg hm hv ?_ hn Ld);exact PyProof.Rows.callWith_type1 (c9 (ha pos ao s σ H _ I h) λus s1 ⟨vs,H1,I1,r1,q1⟩=>hc ao s1 σ H1 vs us Q I1 r1 q1) he Er
end
end L2
namespace HT
open Rows
section
variable {prog:Program} {w:World} {A:Around} {E:Value->Shared->Prop} {s:Shared}
def i6(n d:Nat):Option Int->Nat
 | none=>d
 | some v=>if v<0 then (v+(n:Int)).toNat else min v.toNat n
theorem JQ(n d k:Nat):i6 n d (some (k:Int))=min k n:=by
 show (if (k:Int)<0 then ((k:Int)+(n:Int)).toNat else min (k:Int).toNat n)=min k n;rw[if_neg ∅,Int.toNat_natCast]
theorem VC(n d:Nat)(hd:d<=n)(o:Option Int):i6 n d o<=n:=by
 cases o with
 | none=>exact hd
 | some v =>
  show (if v<0 then (v+(n:Int)).toNat else min v.toNat n)<=n;by_cases hv:v<0
  ·rw[if_pos hv];lia
  ·rw[if_neg hv];exact Nat.min_le_right _ _
theorem JR(v:Int)(n d:Nat):(if v<0 then max (v+(n:Int)) 0 else min v (n:Int))=((i6 n d (some v):Nat):Int):=by
 show (if v<0 then max (v+(n:Int)) 0 else min v (n:Int))=(((if v<0 then (v+(n:Int)).toNat else min v.toNat n):Nat):Int);by_cases hv:v<0
 ·simp only[if_pos hv];lia
 ·simp only[if_neg hv];lia
theorem Hr(lo hi:Option Int)(n:Nat):Builtin.Slice.sliceAdjust lo hi 1 (n:Int)=(((i6 n 0 lo:Nat):Int),((i6 n n hi:Nat):Int)):=by
 have h1:¬ ((1:Int)<0):=by lia
 unfold Builtin.Slice.sliceAdjust;simp only[h1,if_false];refine Prod.ext ?_ ?_
 ·cases lo with
  | none=>rfl
  | some v=>exact JR v n 0
 ·cases hi with
  | none=>rfl
  | some v=>exact JR v n n
theorem Hs(i j:Nat):Builtin.Slice.slicePlaces (i:Int) (j:Int) 1=j-i:=by
 unfold Builtin.Slice.slicePlaces;have h1:(1:Int) > 0:=by lia
 simp only[h1,if_true,Int.ediv_one]
 split <;> lia
theorem zq{v:Value}{o:Option Int}{Q:Option Int->Shared->Prop}(p:IsPart v o)(h:Q o s):wpAny (model prog w) A (Builtin.Slice.slicePartIndex v) Q E s:=by
 cases p with
 | none=>exact slicePart_none h
 | int i t=>exact slicePart_int h
theorem wM{sl:Addr}{vl vu:Value}{lo hi:Option Int}{n:Nat}{Q:Int × Int × Nat->Shared->Prop}(hs:s.heap.IsSliceOf sl vl vu .none)(pl:IsPart vl lo)(pu:IsPart vu hi)
  (h:Q (((i6 n 0 lo:Nat):Int),1,i6 n n hi-i6 n 0 lo) s):wpAny (model prog w) A (Builtin.Slice.sliceApplied (.ref sl) (pure (n:Int))) Q E s:=by
 obtain⟨os,hos,Q0,JS⟩:=id hs;unfold Builtin.Slice.sliceApplied Builtin.Slice.sliceFields;refine wpAny_bind (wpAny_bind (wpAny_field hos JS (x:=vl) rfl (wpAny_bind (wpAny_field hos JS (x:=vu) rfl (wpAny_bind (wpAny_field hos JS (x:=.none) rfl (wpAny_pure ?_)))))));refine wpAny_bind (slicePart_none ?_);show wpAny _ _ (if ((1:Int) == 0)=true then _ else _) _ _ s;rw[if_neg (by decide)];refine wpAny_bind (zq pl (wpAny_bind (zq pu (wpAny_bind (wpAny_pure ?_)))));show wpAny _ _ (match Builtin.Slice.sliceAdjust lo hi 1 (n:Int) with|(lo,hi)=>pure (lo,(1:Int),Builtin.Slice.slicePlaces lo hi 1)) _ _ s;rw[Hr lo hi n];show wpAny _ _ (pure (((i6 n 0 lo:Nat):Int),(1:Int),Builtin.Slice.slicePlaces ((i6 n 0 lo:Nat):Int) ((i6 n n hi:Nat):Int) 1)) _ _ s;rw[Hs];exact wpAny_pure h
theorem NF(xs:Array Value)(i k:Nat):((List.range k).filterMap λ(m:Nat)=>xs[((i:Int)+(m:Int)*1).toNat]?).toArray=((xs.toList.drop i).take k).toArray:=by
 have e:(λ(m:Nat)=>xs[((i:Int)+(m:Int)*1).toNat]?)=λm=>xs[i+m]?:=by
  funext m;have:((i:Int)+(m:Int)*1).toNat=i+m:=by lia
  rw[this]
 rw[e];have:=pick_run xs i k;rw[List.filterMap_map]at this;have e2:((λx=>xs[x]?) ∘ λx=>i+x)=λm=>xs[i+m]?:=rfl;rw[e2]at this;rw[this]
theorem vm{t sl:Addr}{items:Array Value}{vl vu:Value}{lo hi:Option Int}{Q:Value->Shared->Prop}(ht:IsTup s.heap t items)(hs:s.heap.IsSliceOf sl vl vu .none)(pl:IsPart vl lo)(pu:IsPart vu hi)
  (hw:¬ (i6 items.size 0 lo=0/\i6 items.size items.size hi=items.size))
  (h:Q (.ref s.heap.objs.size) { s with heap:=s.heap.push { cls:=.type "tuple",data:=.seq ((items.toList.drop (i6 items.size 0 lo)).take (i6 items.size items.size hi-i6 items.size 0 lo)).toArray } })
  (hsz:items.size<=sizeLine):wpAny (model prog w) A (getItem (.ref t) (.ref sl)) Q E s:=by
 have JT:sizeOk (.seq ((items.toList.drop (i6 items.size 0 lo)).take (i6 items.size items.size hi-i6 items.size 0 lo)).toArray):=by
  show ((items.toList.drop (i6 items.size 0 lo)).take (i6 items.size items.size hi-i6 items.size 0 lo)).toArray.size<=sizeLine;rw[gP,gB,qO,Array.length_toList];lia
 have hj:i6 items.size items.size hi<=items.size:=VC _ _ (fH _) hi;obtain⟨os,hos,Q0,JS⟩:=id hs;have hTs:s.TypeIs (.ref sl) "slice":=⟨os,hos,Q0⟩;unfold getItem
 try with_reducible refine wpAny_holding ?_
 first|refine wpAny_bind (wpAny_pure ?_)|skip
 refine wpAny_bind (wpAny_sequenceKey ht.typeIs (by decide) ?_);refine wpAny_bind (wpAny_callSpecial?_slot (name:=Str.ofString "__getitem__") ht.typeIs PyProof.Rows.slot_tuple_getitem (wpAny_call_entry PyProof.Rows.slot_tuple_getitem ht.typeIs entry_tuple_getitem ?_ (args_tuple_getitem _ _)));show wpAny _ _ (Builtin.Tuple.tupleItemsOf (.ref t) >>= _) _ _ s;refine wpAny_bind (tupleItemsOf_ ht ?_);refine wpAny_bind (wpAny_typeOf hTs ?_);rw[if_pos (by decide)];refine wpAny_bind (wM hs pl pu ?_)
 have YX:¬ ((((i6 items.size 0 lo:Nat):Int) == 0&&(1:Int) == 1&&(i6 items.size items.size hi-i6 items.size 0 lo) == items.size)=true):=by
  intro q;rw[Bool.and_eq_true,Bool.and_eq_true]at q;have q1:((i6 items.size 0 lo:Nat):Int)=0:=eq_of_beq q.1.1;have q2:i6 items.size items.size hi-i6 items.size 0 lo=items.size:=eq_of_beq q.2;exact hw ⟨Q,Q⟩
 show wpAny _ _ (if (((i6 items.size 0 lo:Nat):Int) == 0&&(1:Int) == 1&&(i6 items.size items.size hi-i6 items.size 0 lo) == items.size)=true then _ else _) _ _ s;rw[if_neg YX,NF]
 first
  | exact wpAny_bind (m:=Builtin.Tuple.tupleExact _) (wpAny_newObj_type (wpAny_pure ⟨Y,wpAny_pure h⟩) JT)
  | exact wpAny_bind (m:=Builtin.Tuple.tupleExact _) (wpAny_newObj_type (wpAny_bind (wpAny_pure (wpAny_pure ⟨Y,wpAny_pure h⟩))) JT)
  | exact wpAny_bind (wpAny_bind (m:=Builtin.Tuple.tupleExact _) (wpAny_newObj_type (wpAny_pure (wpAny_pure ⟨Y,wpAny_pure h⟩)) JT))
  | exact wpAny_bind (wpAny_bind (m:=Builtin.Tuple.tupleExact _) (wpAny_newObj_type (wpAny_pure ⟨Y,wpAny_pure h⟩) JT))
end
end HT
namespace L2
open Spec Rows
abbrev TO:=St->Hp->(Option Int->Hp->Prop)->Prop
def PO(X:Cx)(e:Option Expr)(t:TO):Prop :=
 ∀ (ao:List (Addr × Obj)) (s:Shared) (σ:St) (H:Hp) (Q:Option Int->Hp->Prop),Inv X ao σ H s->t σ H Q->
  wpAny (model X.prog X.w) X.A (evalPart e X.env) (λu s'=>∃ o H',Inv X ao σ H' s'/\IsPart u o/\Q o H') X.xe s
def Q2:TO:=λ_ H Q=>Q none H
def YY(t:TE):TO:=fun σ H Q=>t σ H λx H1=>isI x H1 Q
theorem intsAre_of{ns:List Int}:∀ {us:List Value},cA (ns.map V.int) us->IntsAre us ns:=by
 induction ns with
 | nil=>intro us r;rw[List.map_nil]at r;cases r;exact .nil
 | cons n ns ih =>
  intro us r;rw[jv]at r
  cases r with
  | cons r1 r2 =>
   obtain⟨t,e⟩:=r1;subst e;exact .cons n t (ih r2)
section
variable {X:Cx} {e:Expr} {te:TE} {lo hi:Option Expr} {tl th:TO} {pos p2:Pos}
theorem nH:PO X none Q2:=by
 intro ao s σ H Q I h;rw[evalPart_none];exact wpAny_pure ⟨none,H,I,.none,h⟩
theorem i7(h:PE X e te):PO X (some e) (YY te):=by
 intro ao s σ H Q I hw;rw[evalPart_some];refine c9 (h ao s σ H _ I hw) λu s1 G6=>?_;obtain⟨x,H1,I1,r1,q1⟩:=G6;obtain⟨i,rfl,q⟩:=q1;obtain⟨t,rfl⟩:=r1;exact⟨some i,H1,I1,.int i t,q⟩
def SlR(X:Cx)(r:V->Option Int->Option Int->Hp->VK->Prop):Prop :=
 ∀ (ao:List (Addr × Obj)) (s:Shared) (σ:St) (H:Hp) (x:V) (v vl vu:Value) (lo hi:Option Int) (sl:Addr) (Q:VK),Inv X ao σ H s->RelV x v->s.heap.IsSliceOf sl vl vu .none->IsPart vl lo->IsPart vu hi->r x lo hi H Q->
  ∃ T id,typeLookup (.type T) "__getitem__"=pure (some (.builtin id))/\s.TypeIs v T/\wpAny (model X.prog X.w) X.A (getItem v (.ref sl)) (EP X ao σ Q) X.xe s
def tSl(r:V->Option Int->Option Int->Hp->VK->Prop)(te:TE)(tl th:TO):TE:=fun σ H Q=>te σ H λx H1=>tl σ H1 λl H2=>th σ H2 λu H3=>r x l u H3 Q
theorem iV{r:V->Option Int->Option Int->Hp->VK->Prop}(hr:SlR X r)(he:PE X e te)(hl:PO X lo tl)(hu:PO X hi th):PE X (.Subscript e (.Slice lo hi none p2) pos) (tSl r te tl th):=by
 intro ao s σ H Q I h;refine Subscript_ (c9 (he ao s σ H _ I h) λv s1 AR=>?_);obtain⟨x,H1,I1,r1,q1⟩:=AR;refine wpAny_Slice (c9 (hl ao s1 σ H1 _ I1 q1) λvl s2 ⟨l,H2,I2,pl,q2⟩=>c9 (hu ao s2 σ H2 _ I2 q2) λvu s3 EF=>?_);obtain⟨u,H3,I3,pu,q3⟩:=EF;rw[evalPart_none];refine wpAny_pure ?_;have I4:Inv X ao σ H3 { s3 with heap:=s3.heap.push { cls:=.type "slice",data:=.fields #[vl,vu,.none] } }:=I3.kept (t':=s3.toks) λb ob q=>Heap.get?_push_of_some _ q;obtain⟨T,id,hT,ht,hg⟩:=hr ao { s3 with heap:=s3.heap.push { cls:=.type "slice",data:=.fields #[vl,vu,.none] } } σ H3 x v vl vu l u s3.heap.objs.size Q I4 r1 (Heap.IsSliceOf.new ..) pl pu q3;show wpAny (model X.prog X.w) X.A (subscriptTail e (.Slice lo hi none p2) v (.ref s3.heap.objs.size)) (EP X ao σ Q) X.xe { s3 with heap:=s3.heap.push { cls:=.type "slice",data:=.fields #[vl,vu,.none] } };exact tail_any (ops:=[.ref s3.heap.objs.size,v]) ht hT hg (by with_unfolding_all rfl)
def kC(xs:List V)(lo hi:Option Int):List V:=(xs.drop (HT.i6 xs.length 0 lo)).take (HT.i6 xs.length xs.length hi-HT.i6 xs.length 0 lo)
theorem xV(xs:List V)(lo hi:Option Int):(kC xs lo hi).length<=xs.length:=by
 unfold kC;rw[gB,qO];lia
def ac5(K:Frag):V->Option Int->Option Int->Hp->VK->Prop:=λx lo hi H Q=>∃ a xs,x=.ref a/\cY K H a xs/\
 ¬ (HT.i6 xs.length 0 lo=0/\HT.i6 xs.length xs.length hi=xs.length)/\∀ p,H p=none->Q (.ref p) (aM H p (.tup (kC xs lo hi)))
theorem VD:SlR X (ac5 X.K):=by
 intro ao s σ H x v vl vu lo hi sl Q I rx hs pl pu h;obtain⟨a,xs,rfl,hx,hw,q⟩:=h;cases rx;obtain⟨aL,r,ht,hz⟩:=I.tuple hx;have dO:aL.toArray.size=xs.length:=by rw[gP];exact r.length.symm
 exists "tuple",_,PyProof.Rows.slot_tuple_getitem.lookup,ht.typeIs;refine HT.vm ht hs pl pu (by rw[dO];exact hw) ?_ (by rw[dO];exact hz);rw[dO];refine⟨.ref s.heap.objs.size,_,I.laid (t':=s.toks) (o:=.tup (kC xs lo hi)) (λb ob q=>Heap.get?_push_of_some _ q) (fH _) ?_,rfl,q _ (I.hok.fresh (fH _))⟩;exact⟨Nat.le_trans (xV xs lo hi) hz,_,(r.drop (HT.i6 xs.length 0 lo)).take (HT.i6 xs.length xs.length hi-HT.i6 xs.length 0 lo),IsTup.new _ _⟩
end
end L2
namespace L2
open Spec Rows
def JU(n:Nat)(i:Int):Option Nat:=if 0<=i then (if i<n then some i.toNat else none) else if -(n:Int)<=i then some (i+n).toNat else none
def pG{α:Type}(xs:List α)(i:Int):Option α:=(JU xs.length i).bind λj=>xs[j]?
theorem JV{n:Nat}{i:Int}{j:Nat}(h:JU n i=some j):seqIndex? i n=some j/\j<n/\-(n:Int)<=i/\i<n:=by
 unfold JU at h;by_cases h0:0<=i
 ·rw[if_pos h0]at h;by_cases h1:i<n
  ·rw[if_pos h1]at h;have e:i.toNat=j:=qP h;exact⟨by rw[seqIndex_of h0 h1,e],Q,Q,h1⟩
  ·rw[if_neg h1]at h;cases h
 ·rw[if_neg h0]at h;by_cases h1:-(n:Int)<=i
  ·rw[if_pos h1]at h;have e:(i+n).toNat=j:=qP h;exact⟨by rw[seqIndex_neg ∅ h1,e],Q,h1,Q⟩
  ·rw[if_neg h1]at h;cases h
theorem CP{α:Type}{xs:List α}{i:Int}{v:α}(h:pG xs i=some v):∃ j,seqIndex? i xs.length=some j/\xs[j]?=some v/\j<xs.length/\-(xs.length:Int)<=i/\i<xs.length:=by
 unfold pG at h
 cases e:JU xs.length i with
 | none=>rw[e]at h;cases h
 | some j =>
  rw[e]at h;obtain⟨h1,h2,h3,h4⟩:=JV e;exact⟨j,h1,h,h2,h3,h4⟩
theorem dc{α:Type}{xs:List α}{j:Nat}{v:α}(h:xs[j]?=some v):pG xs (j:Int)=some v:=by
 have hj:j<xs.length:=(List.getElem?_eq_some_iff.mp h).1
 have e:JU xs.length (j:Int)=some j:=by
  unfold JU;rw[if_pos ∅,if_pos ∅];simp
 unfold pG;rw[e];exact h
theorem NG{α:Type}(xs:List α)(v:α):pG (xs++[v]) (-1)=some v:=by
 have hl:(xs++[v]).length=xs.length+1:=by simp
 have e:JU (xs++[v]).length (-1)=some xs.length:=by
  unfold JU;rw[hl,if_neg (by decide),if_pos ∅];congr 1;lia
 unfold pG;rw[e];show (xs++[v])[xs.length]?=some v;simp
def JW(b:Expr):Prop:=∀ o i,subscripted b false o i=operate [o,i] (getItem o i)
def XS(X:Cx)(r:R2):Prop :=
 ∀ (value tO:Expr) (ao:List (Addr × Obj)) (s:Shared) (σ:St) (H:Hp) (x y:V) (v u:Value) (Q:VK),Inv X ao σ H s->RelV x v->RelV y u->r x y H Q->
  subscripted tO false v u=operate [v,u] (getItem v u)->wpAny (model X.prog X.w) X.A (subscriptTail value tO v u) (EP X ao σ Q) X.xe s
def MtR(X:Cx)(id:String)(r:V->List V->Hp->VK->Prop):Prop :=
 ∀ (ao:List (Addr × Obj)) (s:Shared) (σ:St) (H:Hp) (x:V) (xs:List V) (v:Value) (us:List Value) (Q:VK),Inv X ao σ H s->RelV x v->cA xs us->r x xs H Q->
  wpAny (model X.prog X.w) X.A (call (.builtin id) (v::us)) (EP X ao σ Q) X.xe s
section
variable {X:Cx} {a b:Expr} {ta tb:TE} {pos:Pos}
theorem YZ{r:R2}(hr:XS X r)(ha:PE X a ta)(hb:PE X b tb)(hs:JW b):PE X (.Subscript a b pos) (YL r ta tb):=by
 intro ao s σ H Q I h;exact Subscript_ (Vv ha hb I h λv u s2 x y H2 I2 rx ry q=>hr a b ao s2 σ H2 x y v u Q I2 rx ry q (hs _ _))
inductive ac6(K:Frag)(x y:V)(H:Hp)(Q:VK):Prop
 | mk (p:Addr) (xs:List V) (i:Int) (v:V) (_:x=.ref p) (_:y=.int i) (_:bI K H p xs) (_:pG xs i=some v) (_:Q v H)
inductive Y0(K:Frag)(x y:V)(H:Hp)(Q:VK):Prop
 | mk (p:Addr) (xs:List V) (i:Int) (v:V) (_:x=.ref p) (_:y=.int i) (_:cY K H p xs) (_:pG xs i=some v) (_:Q v H)
def ac7:R2:=λx y H Q=>∃ z i c,x=.str z/\y=.int i/\z.length<=sizeLine/\pG z.cps.toList i=some c/\Q (.str ⟨#[c]⟩) H
theorem bG:XS X (ac6 X.K):=by
 intro value tO ao s σ H x y v u Q I rx ry h hs;obtain⟨p,xs,i,z,rfl,rfl,hq,he,q⟩:=h;cases rx;obtain⟨t,rfl⟩:=ry;obtain⟨aL,r,pl,hz⟩:=I.list hq;obtain⟨j,h1,h2,h3,h4,h5⟩:=CP he;obtain⟨w,ew,kZ⟩:=r.get h2;have hl:=r.length;have hn:=ug;have jN:EP X ao σ Q w s:=⟨z,H,I,kZ,q⟩;by_cases h0:0<=i
 ·have hj:i.toNat=j:=by
   rw[seqIndex_of h0 h5]at h1;exact qP h1
  exact item_listR pl.isList h0 ∅ (by rw[hj];simpa using ew) jN hs
 ·have hj:(i+(aL.toArray.size:Int)).toNat=j:=by
   rw[seqIndex_neg ∅ h4]at h1;rw[gP,← hl];exact qP h1
  exact subscriptTail_builtinR (x:=w) pl.isList.typeIs slot_list_getitem.lookup
   (wpAny_getItem_list_neg (Q:=λr s'=>r=w/\EP X ao σ Q r s') pl.isList ∅ (by rw[gP] <;> lia) ∅ (by rw[hj];simpa using ew) ⟨rfl,jN⟩) hs
theorem aX:XS X (Y0 X.K):=by
 intro value tO ao s σ H x y v u Q I rx ry h hs;obtain⟨p,xs,i,z,rfl,rfl,hq,he,q⟩:=h;cases rx;obtain⟨t,rfl⟩:=ry;obtain⟨aL,r,pl,hz⟩:=I.tuple hq;obtain⟨j,h1,h2,h3,h4,h5⟩:=CP he;obtain⟨w,ew,kZ⟩:=r.get h2;have hl:=r.length;have hn:=ug;have jN:EP X ao σ Q w s:=⟨z,H,I,kZ,q⟩;exact subscriptTail_builtinR (x:=w) pl.typeIs slot_tuple_getitem.lookup (getItem_tuple (j:=j) (Q:=λr s'=>r=w/\EP X ao σ Q r s') pl ∅ ∅ (by rw[gP,← hl];exact h1) (by simpa using ew) ⟨rfl,jN⟩) hs
theorem NH:XS X ac7:=by
 intro value tO ao s σ H x y v u Q I rx ry h hs;obtain⟨z,i,c,rfl,rfl,hz,he,q⟩:=h;obtain⟨t,rfl⟩:=rx;obtain⟨t',rfl⟩:=ry;obtain⟨j,h1,h2,h3,h4,h5⟩:=CP he;have hl:z.cps.toList.length=z.length:=by simp[Str.length]
 rw[hl]at h1 h4 h5;have hn:=ug
 exact tail_any (typeIs_str s z t) slot_str_getitem.lookup (getItem_str (c:=c) (by
  have e1:decide (i < -(2^63:Int))=false:=decide_eq_false ∅;have e2:decide (i>=2^63)=false:=decide_eq_false ∅
  rw[e1,e2,Bool.or_false]) (by rw[h1];simpa using h2) ⟨.str ⟨#[c]⟩,H,I.tok _,⟨Y⟩,q⟩) hs
theorem Ht(aL:List Value)(n j:Nat)(u:Value):Obj.mapSeq (·.setIfInBounds j u) { cls:=.type "list",data:=.seq aL.toArray n }={ cls:=.type "list",data:=.seq (aL.set j u).toArray n }:=by
 simp[Obj.mapSeq]
theorem Inv.lst{ao:List (Addr × Obj)}{σ:St}{H:Hp}{s:Shared}{p:Addr}{xs:List V}(I:Inv X ao σ H s)(h:H p=some (.lst xs)) :
  ∃ (aL:List Value) (n:Nat),cA xs aL/\s.heap.get? p=some { cls:=.type "list",data:=.seq aL.toArray n }/\xs.length<=sizeLine:=by
 obtain⟨z,aL,n,r,e⟩:=I.hok p _ h;exact⟨aL,n,r,e,z⟩
theorem Inv.VE{σ:St}{H:Hp}{s:Shared}{p:Addr}{xs ys:List V}{aL its':List Value}{n n':Nat}{f:Obj->Obj}(I:Inv X ao σ H s)(h:H p=some (.lst xs))
  (ho:s.heap.get? p=some { cls:=.type "list",data:=.seq aL.toArray n }) (hf:f { cls:=.type "list",data:=.seq aL.toArray n }={ cls:=.type "list",data:=.seq its'.toArray n' }) (r:cA ys its') (hz:ys.length<=sizeLine) (t:Nat) :
  Inv X ao σ (aM H p (.lst ys)) { s with heap:=s.heap.update p f,toks:=t }:=by
 have e:(s.heap.update p f).get? p=some { cls:=.type "list",data:=.seq its'.toArray n' }:=by
  rw[Heap.get?_update_self f ho (by rw[hf] <;> rfl),hf]
 refine I.write (x:=p) (e:=p) (by rw[h];trivial) (.inl rfl) (λb u hb q=>(Heap.get?_update_other _ _ (Ne.symm hb)).trans q) ⟨_,e⟩ ?_;exact⟨hz,its',n',r,e⟩
inductive Y3(o i v:V)(H:Hp)(Q:Hp->Prop):Prop
 | mk (p:Addr) (xs:List V) (k:Int) (j:Nat) (_:o=.ref p) (_:i=.int k) (_:H p=some (.lst xs)) (_:JU xs.length k=some j) (_:Q (aM H p (.lst (xs.set j v))))
theorem jy:YG X Y3:=by
 intro ao s σ H o i v ov iv u Q I ro ri rv h;obtain⟨p,xs,k,j,rfl,rfl,hp,hj,q⟩:=h;cases ro;obtain⟨t,rfl⟩:=ri;obtain⟨aL,n,r,ho,hz⟩:=I.lst hp;obtain⟨h1,h2,h3,h4⟩:=JV hj;have hl:=r.length;have hn:=ug;have I':Inv X ao σ (aM H p (.lst (xs.set j v))) { s with heap:=s.heap.update p (Obj.mapSeq (·.setIfInBounds j u)) } := I.VE hp ho (Ht aL n j u) (r.set rv j) (by rw[List.length_set];exact hz) s.toks;by_cases h0:0<=k
 ·have hk:k.toNat=j:=by
   rw[seqIndex_of h0 h4]at h1;exact qP h1
  exact PySem.W.ki_setAt ho h0 ∅ (by rw[gP,← hl];exact h4) (by rw[hk];exact⟨_,I',q⟩)
 ·have hk:(k+(aL.toArray.size:Int)).toNat=j:=by
   rw[seqIndex_neg ∅ h3]at h1;rw[gP,← hl];exact qP h1
  exact PySem.W.ki_setBack ho ∅ (by rw[gP,← hl];exact h3) ∅ (by rw[hk];exact⟨_,I',q⟩)
theorem CQ(lo hi:Option Int)(n:Nat):(sliceBounds lo hi none n).1=((HT.i6 n 0 lo:Nat):Int)/\(sliceBounds lo hi none n).2.1=((HT.i6 n n hi:Nat):Int)/\(sliceBounds lo hi none n).2.2=1:=by
 refine⟨?_,?_,rfl⟩
 ·cases lo with
  | none=>simp[sliceBounds,HT.i6]
  | some i =>
   simp only[sliceBounds,HT.i6,Option.getD_none,show (1:Int) > 0 by decide,if_true];by_cases h:i<0
   ·simp only[h,if_true] <;> lia
   ·simp only[h,if_false] <;> lia
 ·cases hi with
  | none=>simp[sliceBounds,HT.i6]
  | some i =>
   simp only[sliceBounds,HT.i6,Option.getD_none,show (1:Int) > 0 by decide,if_true];by_cases h:i<0
   ·simp only[h,if_true] <;> lia
   ·simp only[h,if_false] <;> lia
theorem AU(aL:List Value)(lo hi:Option Int):slicePick aL.toArray lo hi none=((aL.drop (HT.i6 aL.length 0 lo)).take (HT.i6 aL.length aL.length hi-HT.i6 aL.length 0 lo)).toArray:=by
 obtain⟨h1,h2,h3⟩:=CQ lo hi aL.toArray.size;unfold slicePick;rw[h1,h2,h3]
 simp only[sliceRange_one,pick_run,gP] <;> rfl
inductive Y4(K:Frag)(x:V)(lo hi:Option Int)(H:Hp)(Q:VK):Prop
 | mk (a:Addr) (xs:List V) (_:x=.ref a) (_:bI K H a xs) (_:∀ p,H p=none->Q (.ref p) (aM H p (.lst (kC xs lo hi)))):Y4 K x lo hi H Q
theorem lV:SlR X (Y4 X.K):=by
 intro ao s σ H x v vl vu lo hi sl Q I rx hs pl pu h;obtain⟨a,xs,rfl,hx,q⟩:=h;cases rx;obtain⟨aL,r,ht,hz⟩:=I.list hx;have dO:=r.length;exists "list",_,slot_list_getitem.lookup,ht.isList.typeIs
 refine wpAny_getItem_list_slice ht.isList hs pl pu .none (by simp) ?_ (by rw[gP] <;> lia)
 rw[AU,← dO];refine⟨.ref s.heap.objs.size,_,I.laid (t':=s.toks) (o:=.lst (kC xs lo hi)) (λb ob q=>Heap.get?_push_of_some _ q) (fH _) ?_,rfl,q _ (I.hok.fresh (fH _))⟩;exact⟨Nat.le_trans (xV xs lo hi) hz,_,0,(r.drop (HT.i6 xs.length 0 lo)).take (HT.i6 xs.length xs.length hi-HT.i6 xs.length 0 lo),Heap.get?_push_size _ rfl⟩
def vo:V->Bool
 | .gm=>true
 | .bl _=>true
 | .int _=>true
 | .str _=>true
 | _=>false
def Ua:V->V->Bool
 | .gm,.gm=>true
 | .bl a,.bl b=>a == b
 | .bl a,.int b=>(if a then 1 else 0) == b
 | .int a,.bl b=>a == (if b then 1 else 0)
 | .int a,.int b=>a == b
 | .str a,.str b=>a == b
 | _,_=>false
theorem VF{A:Around}{s:Shared}{y x:V}{u v:Value}(ry:RelV y u)(rx:RelV x v)(fy:vo y=true)(fx:vo x=true):SeqAt.EqAt A s u v (Ua y x):=by
 cases y with
 | gm =>
  cases ry
  cases x with
  | gm=>cases rx;exact SeqAt.EqAt.same _
  | bl b=>cases rx;exact SeqAt.EqAt.none_bool b
  | int b=>obtain⟨t,rfl⟩:=rx;exact SeqAt.EqAt.none_int b t
  | str b=>obtain⟨t,rfl⟩:=rx;exact SeqAt.EqAt.none_str b t
  | _=>exact absurd (show false=true from fx) gf
 | bl a =>
  cases ry
  cases x with
  | gm=>cases rx;exact SeqAt.EqAt.bool_none a
  | bl b=>cases rx;exact SeqAt.EqAt.bool_bool a b
  | int b=>obtain⟨t,rfl⟩:=rx;exact SeqAt.EqAt.bool_int a b t
  | str b=>obtain⟨t,rfl⟩:=rx;exact SeqAt.EqAt.bool_str a b t
  | _=>exact absurd (show false=true from fx) gf
 | int a =>
  obtain⟨t',rfl⟩:=ry
  cases x with
  | gm=>cases rx;exact SeqAt.EqAt.int_none a t'
  | bl b=>cases rx;exact SeqAt.EqAt.int_bool a t' b
  | int b=>obtain⟨t,rfl⟩:=rx;exact SeqAt.EqAt.int_int a t' b t
  | str b=>obtain⟨t,rfl⟩:=rx;exact SeqAt.EqAt.int_str a t' b t
  | _=>exact absurd (show false=true from fx) gf
 | str a =>
  obtain⟨t',rfl⟩:=ry
  cases x with
  | gm=>cases rx;exact SeqAt.EqAt.str_none a t'
  | bl b=>cases rx;exact SeqAt.EqAt.str_bool a t' b
  | int b=>obtain⟨t,rfl⟩:=rx;exact SeqAt.EqAt.str_int a t' b t
  | str b=>obtain⟨t,rfl⟩:=rx;exact SeqAt.EqAt.str_str a t' b t
  | _=>exact absurd (show false=true from fx) gf
 | _=>exact absurd (show false=true from fy) gf
def Hu(x:V)(u:Value):Bool:=match u with
 | .none=>Ua .gm x
 | .bool b=>Ua (.bl b) x
 | .int i _=>Ua (.int i) x
 | .str z _=>Ua (.str z) x
 | _=>false
theorem NI{x y:V}{u:Value}(r:RelV y u)(f:vo y=true):Hu x u=Ua y x:=by
 cases y with
 | gm=>cases r;rfl
 | bl b=>cases r;rfl
 | int i=>obtain⟨t,rfl⟩:=r;rfl
 | str z=>obtain⟨t,rfl⟩:=r;rfl
 | _=>exact absurd (show false=true from f) gf
theorem vp{x:V}:∀ {xs:List V} {us:List Value},cA xs us->xs.all vo=true->us.any (Hu x)=xs.any λy=>Ua y x
 | _,_,.nil,_=>rfl
 | y::xs,u::us,.cons r t,f=>by
  rw[List.all_cons,Bool.and_eq_true]at f;rw[List.any_cons,List.any_cons,NI r f.1,vp t f.2]
theorem qW{A:Around}{s:Shared}{x:V}{v:Value}(rx:RelV x v)(fx:vo x=true):∀ {xs:List V} {us:List Value},cA xs us->xs.all vo=true->∀ u∈us,SeqAt.EqAt A s u v (Hu x u)
 | _,_,.nil,_=>λu hu=>by cases hu
 | y::xs,u::us,.cons r t,f=>λu' hu=>by
  rw[List.all_cons,Bool.and_eq_true]at f;rcases List.mem_cons.mp hu with rfl|hu
  ·rw[NI r f.1];exact VF r rx f.1 fx
  ·exact qW rx fx t f.2 u' hu
def inV(x:V)(xs:List V):Bool:=xs.any λy=>Ua y x
inductive VG(K:Frag)(xs:List V)(H:Hp)(Q:VK):Prop
 | mk (p:Addr) (ys:List V) (_:xs=[.ref p]) (_:bI K H p ys\/cY K H p ys) (_:Q (.int ys.length) H):VG K xs H Q
inductive Y5(K:Frag)(xs:List V)(H:Hp)(Q:VK):Prop
 | mk (p:Addr) (ys:List V) (_:xs=[.ref p]) (_:bI K H p ys\/cY K H p ys) (_:∀ l,H l=none->Q (.ref l) (aM H l (.lst ys)))
def rIn(K:Frag)(neg:Bool):R2:=λx y H Q=>∃ p xs,y=.ref p/\(bI K H p xs\/cY K H p xs)/\vo x=true/\xs.all vo=true/\Q (.bl (if neg then !inV x xs else inV x xs)) H
theorem Lh:uf X (compareOp .In) (rIn X.K false):=by
 intro ao s σ H x y v u Q I rx ry h;obtain⟨p,xs,rfl,hq,fx,fs,q⟩:=h;cases ry;rcases hq with hq|hq
 ·obtain⟨aL,r,pl,hz⟩:=I.list hq;refine SeqAt.in_listAt (Hu x) pl.isList (λw hw=>qW rx fx r fs w (by simpa using hw)) ⟨.bl _,H,I,rfl,?_⟩;rw[show aL.toArray.any (Hu x)=aL.any (Hu x) by simp,vp r fs];exact q
 ·obtain⟨aL,r,pl,hz⟩:=I.tuple hq;refine SeqAt.in_tupleAt (Hu x) pl (λw hw=>qW rx fx r fs w (by simpa using hw)) ⟨.bl _,H,I,rfl,?_⟩;rw[show aL.toArray.any (Hu x)=aL.any (Hu x) by simp,vp r fs];exact q
theorem vq:uf X (compareOp .NotIn) (rIn X.K true):=by
 intro ao s σ H x y v u Q I rx ry h;obtain⟨p,xs,rfl,hq,fx,fs,q⟩:=h;cases ry;rcases hq with hq|hq
 ·obtain⟨aL,r,pl,hz⟩:=I.list hq;refine SeqAt.notIn_listAt (Hu x) pl.isList (λw hw=>qW rx fx r fs w (by simpa using hw)) ⟨.bl _,H,I,rfl,?_⟩;rw[show aL.toArray.any (Hu x)=aL.any (Hu x) by simp,vp r fs];exact q
 ·obtain⟨aL,r,pl,hz⟩:=I.tuple hq;refine SeqAt.notIn_tupleAt (Hu x) pl (λw hw=>qW rx fx r fs w (by simpa using hw)) ⟨.bl _,H,I,rfl,?_⟩;rw[show aL.toArray.any (Hu x)=aL.any (Hu x) by simp,vp r fs];exact q
theorem CU:jV X (.builtin "len") (VG X.K):=by
 intro ao s σ H xs us Q I r h;obtain⟨p,ys,rfl,hq,q⟩:=h;obtain⟨u,rfl,rx⟩:=vals1 r;cases rx;have hn:=ug;rcases hq with hq|hq
 ·obtain⟨aL,r',pl,hz⟩:=I.list hq;have dO:=r'.length
  exact Calls.call_len_list pl.isList (by simp only[gP] <;> lia) ⟨.int ys.length,H,I.tok _,⟨s.toks+1,by rw[gP,dO]⟩,q⟩
 ·obtain⟨aL,r',pl,hz⟩:=I.tuple hq;have dO:=r'.length
  exact len_tuple pl (by simp only[gP] <;> lia) ⟨.int ys.length,H,I.tok _,⟨s.toks+1,by rw[gP,dO]⟩,q⟩
theorem vt:jV X (.builtin "len") (λxs H Q=>∃ z,xs=[.str z]/\z.length<=sizeLine/\Q (.int z.length) H):=by
 intro ao s σ H xs us Q I r h;obtain⟨z,rfl,hz,q⟩:=h;obtain⟨u,rfl,t,rfl⟩:=vals1 r;have hn:=ug;exact len_str ∅ ⟨.int z.length,H,I.tok _,⟨Y⟩,q⟩
theorem cS:jV X (.type "list") (Y5 X.K):=by
 intro ao s σ H xs us Q I r h;obtain⟨p,ys,rfl,hq,q⟩:=h;obtain⟨u,rfl,rx⟩:=vals1 r;cases rx
 have jN:∀ (aL:List Value),cA ys aL->ys.length<=sizeLine->∀ (h':Heap) (c':Nat),(∀ b o',s.heap.get? b=some o'->h'.get? b=some o')->
   h'.get? s.heap.objs.size=some { cls:=.type "list",dict:=none,data:=.seq aL.toArray c',slots:=#[] }->EP X ao σ Q (.ref s.heap.objs.size) { s with heap:=h' }:=λaL r' hz h' c' kp e =>
  ⟨.ref s.heap.objs.size,_,I.laid (t':=s.toks) kp (fH _) (show fR X.prog X.w _ h' _ (.lst ys) from ⟨hz,aL,c',r',e⟩),rfl,q _ (I.hok.fresh (fH _))⟩
 rcases hq with hq|hq
 ·obtain⟨aL,r',pl,hz⟩:=I.list hq;have dO:=r'.length;obtain⟨o,ho,hc,n,hd⟩:=pl.isList
  exact call_list_seq p (.inl rfl) ho hc hd (λh' c' kp e=>jN aL r' hz h' c' kp e) (by simp only[gP] <;> lia)
 ·obtain⟨aL,r',pl,hz⟩:=I.tuple hq;have dO:=r'.length;obtain⟨o,ho,hc,n,hd⟩:=pl
  exact call_list_seq p (.inr rfl) ho hc hd (λh' c' kp e=>jN aL r' hz h' c' kp e) (by simp only[gP] <;> lia)
def tyV(K:Frag)(T:String)(x:V)(H:Hp):Prop:=match x with
 | .str _=>T="str"
 | .int _=>T="int"
 | .ref p=>(T="list"/\∃ xs,bI K H p xs)\/(T="tuple"/\∃ o,K.lookup p=some o/\o.cls=.type "tuple"/\o.dict=none)\/
   (T="dict"/\((∃ kvs,H p=some (.dK kvs))\/∃ kvs,H p=some (.dT kvs)))\/(T="set"/\∃ S n,H p=some (.set S n))
 | _=>False
theorem NJ{σ:St}{H:Hp}{s:Shared}{T:String}{x:V}{v:Value}(I:Inv X ao σ H s)(r:RelV x v)(ty:tyV X.K T x H) :
  s.TypeIs v T/\∀ a,v=.ref a->∃ ob,s.heap.get? a=some ob/\ob.dict=none:=by
 cases x with
 | str z =>
  obtain⟨t,rfl⟩:=r;cases (show T="str" from ty);exact⟨typeIs_str s z t,λ_ e=>nomatch e⟩
 | int i =>
  obtain⟨t,rfl⟩:=r;cases (show T="int" from ty);exact⟨typeIs_int s i t,λ_ e=>nomatch e⟩
 | ref p =>
  cases r;rcases ty with ⟨rfl,xs,hq⟩|⟨rfl,o,hk,hc,hd⟩|⟨rfl,hk⟩|⟨rfl,S,n,hk⟩
  ·obtain⟨aL,_,pl,_⟩:=I.list hq;refine⟨pl.isList.typeIs,λa e=>?_⟩;cases e;obtain⟨o,n,e,c,hd,_⟩:=pl;exact⟨o,e,hd⟩
  ·refine⟨⟨o,I.xR p o hk,hc⟩,λa e=>?_⟩;cases e;exact⟨o,I.xR _ o hk,hd⟩
  ·have z:∃ o,s.heap.get? p=some o/\o.ExactDict:=by
    rcases hk with ⟨kvs,hk⟩|⟨kvs,hk⟩
    ·obtain⟨_,_,_,_,o,_,_,e,ex,_⟩:=I.hok p _ hk;exact⟨o,e,ex⟩
    ·obtain⟨_,_,_,_,o,_,_,e,ex,_⟩:=I.hok p _ hk;exact⟨o,e,ex⟩
   obtain⟨o,e,ex⟩:=z;refine⟨⟨o,e,ex.1⟩,λa e2=>?_⟩;cases e2;exact⟨o,e,ex.2.1⟩
  ·obtain⟨o,_,_,_,e,ex,_⟩:=I.hok p _ hk;refine⟨⟨o,e,ex.1⟩,λa e2=>?_⟩;cases e2;exact⟨o,e,ex.2.1⟩
 | _=>exact False.elim ty
def ada(K:Frag)(T:String)(r:V->List V->Hp->VK->Prop)(to:TE):TE:=fun σ H Q=>to σ H λx H1=>tyV K T x H1/\r x [] H1 Q
def tBM(K:Frag)(T:String)(r:V->List V->Hp->VK->Prop)(to:TE)(t:TA):TE:=fun σ H Q=>to σ H λx H1=>tyV K T x H1/\t σ H1 λxs H2=>r x xs H2 Q
variable {o e:Expr} {es:List Expr} {to:TE} {t:TA} {name:Str} {lU qX:Pos} {T id:String} {r:V->List V->Hp->VK->Prop}
theorem NK(pa:PlainAttrs T)(slot:Slot T name id)(hty:typeOf (.builtin id)=pure (.type "method_descriptor"))(hm:MtR X id r)(ho:PE X o to)
  (NL:attributeBase o name X.env (eval o X.env)=eval o X.env:=by rfl) (NN:(lU.endLine == qX.line)=true:=by rfl):PE X (.Call (.Attribute o name lU) [] [] qX) (ada X.K T r to):=by
 intro ao s σ H Q I h;refine wpAny_Call_method0_late NL NN (c9 (ho ao s σ H _ I h) λv s1 CM=>?_);obtain⟨x,H1,I1,r1,ty,q1⟩:=CM;obtain⟨h1,h2⟩:=NJ I1 r1 ty;exact⟨T,id,pa,slot,hty,h1,h2,Calls.callWith_builtin rfl (PySem.evalArgs_none (hm ao s1 σ H1 x [] v [] Q I1 r1 .nil q1))⟩
theorem dX(pa:PlainAttrs T)(slot:Slot T name id)(hty:typeOf (.builtin id)=pure (.type "method_descriptor"))(hm:MtR X id r)(ho:PE X o to)(ha:PA X (e::es) t)
  (NL:attributeBase o name X.env (eval o X.env)=eval o X.env:=by rfl)
  (ade:((backTo qX (starEach (e::es) X.env)).all (λx=>!x.1)&&(backToKw qX (keywordEach [] X.env)).all (λx=>x.1.isSome)
   && decide ((e::es).length+([]:List Keyword).length+(if ([]:List Keyword).isEmpty then 0 else 1)<30))=true:=by rfl)
  (NN:(lU.endLine == qX.line)=true:=by rfl) (hs:starEach (e::es) X.env=(false,eval e X.env)::starEach es X.env:=by rfl) (VH:(backTo qX (starEach es X.env)).any (·.1)=false:=by rfl) :
  PE X (.Call (.Attribute o name lU) (e::es) [] qX) (tBM X.K T r to t):=by
 intro ao s σ H Q I h;refine wpAny_Call_method_late NL ade NN rfl (c9 (ho ao s σ H _ I h) λv s1 G4=>?_);obtain⟨x,H1,I1,r1,ty,q1⟩:=G4;obtain⟨h1,h2⟩:=NJ I1 r1 ty;exists T,id,pa,slot,hty,h1,h2;have hA:=ha qX ao s1 σ H1 _ I1 q1;rw[hs]at hA ⊢
 refine Calls.callWith_builtin (by show (false || (backTo qX (starEach es X.env)).any (·.1))=false;rw[VH] <;> rfl) (Calls.evalArgs_plain ?_)
 exact c9 hA λus s2 ⟨vs,H2,I2,r2,q2⟩=>hm ao s2 σ H2 x vs v us Q I2 r1 r2 q2
end
end L2
namespace L2
open Spec Rows
def XT(X:Cx)(id:String)(r:V->List V->Hp->VK->Prop):Prop :=
 ∀ (ao:List (Addr × Obj)) (s:Shared) (σ:St) (H:Hp) (x:V) (xs:List V) (v:Value) (us:List Value) (Q:VK),Inv X ao σ H s->RelV x v->cA xs us->r x xs H Q->
  wpAny (model X.prog X.w) X.A (call (.builtin id) (v::us)) (EP X ao σ Q) X.xe s
theorem cA.one{x:V}{us:List Value}(h:cA [x] us):∃ u,us=[u]/\RelV x u:=by
 cases h with
 | cons r t=>cases t;exact⟨Y,r⟩
theorem cA.two{x y:V}{us:List Value}(h:cA [x,y] us):∃ u v,us=[u,v]/\RelV x u/\RelV y v:=by
 cases h with
 | cons r t =>
  obtain⟨_,rfl,q⟩:=cA.one t;exact⟨P,rfl,r,q⟩
theorem cA.zero:∀ {us:List Value},cA [] us->us=[]
 | _,.nil=>rfl
theorem cA.dropLast{xs:List V}{us:List Value}(h:cA xs us):cA xs.dropLast us.dropLast:=by
 induction h with
 | nil=>exact .nil
 | cons r t ih =>
  cases t with
  | nil=>exact .nil
  | cons q t'=>exact .cons r ih
theorem cA.eraseIdx:∀ {xs:List V} {us:List Value} (i:Nat),cA xs us->cA (xs.eraseIdx i) (us.eraseIdx i)
 | _,_,_,.nil=>.nil
 | _,_,0,.cons _ t=>t
 | _,_,i+1,.cons r t=>.cons r (cA.eraseIdx i t)
theorem cA.rep{xs:List V}{us:List Value}(h:cA xs us):∀ k:Nat,cA (List.replicate k xs).flatten (List.replicate k us).flatten
 | 0=>.nil
 | k+1=>by
  rw[List.replicate_succ,List.replicate_succ,List.flatten_cons,List.flatten_cons];exact cA.append h (cA.rep h k)
theorem Hv{α:Type}(l:List α):l.eraseIdx (l.length-1)=l.dropLast:=by
 induction l with
 | nil=>rfl
 | cons a r ih =>
  cases r with
  | nil=>rfl
  | cons b r =>
   have e:(a::b::r).length-1=((b::r).length-1)+1:=by
    have h1:(a::b::r).length=r.length+2:=rfl;have h2:(b::r).length=r.length+1:=rfl;lia
   rw[e,List.eraseIdx_cons_succ,ih]
   all_goals rfl
theorem BH{α:Type}:∀ (l:List α) (i:Nat),(l.eraseIdx i).length<=l.length
 | [],_=>fH _
 | _::_,0=>Nat.le_succ _
 | _::r,i+1=>Nat.succ_le_succ (BH r i)
theorem foldl_rep(aL:List Value):∀ (k:Nat) (acc:List Value),
  List.foldl (λx1 x2=>x1++x2) acc.toArray (List.replicate k aL.toArray)=(acc++(List.replicate k aL).flatten).toArray
 | 0,acc=>by simp
 | k+1,acc=>by
  have e:acc.toArray++aL.toArray=(acc++aL).toArray:=by simp
  have e2:(acc++aL)++(List.replicate k aL).flatten=acc++(List.replicate (k+1) aL).flatten:=by
   rw[List.replicate_succ,List.flatten_cons,nC]
  rw[← e2,← foldl_rep aL k (acc++aL),← e,List.replicate_succ,kq]
section
variable {X:Cx} {ao:List (Addr × Obj)} {σ:St} {H:Hp} {s:Shared} {l b:Addr} {xs ys zs:List V}
theorem Inv.NO{aL its':List Value}{n:Nat}{f:Array Value->Array Value}{t':Nat}(I:Inv X ao σ H s)(hH:H l=some (.lst xs))
  (e:s.heap.get? l=some { cls:=.type "list",data:=.seq aL.toArray n }) (hf:f aL.toArray=its'.toArray) (hv:cA ys its') (hz:ys.length<=sizeLine) :
  Inv X ao σ (aM H l (.lst ys)) { s with heap:=s.heap.update l (Obj.mapSeq f),toks:=t' }:=by
 have q:=PySem.IsL.update e f;rw[hf]at q;refine I.write (x:=l) (e:=l) (by rw[hH];exact trivial) (.inl rfl) (λb' u hb hu=>(Heap.get?_update_other s.heap (Obj.mapSeq f) (Ne.symm hb)).trans hu) ⟨_,q⟩ ?_;exact⟨hz,its',_,hv,q⟩
theorem Inv.Q3{aL:List Value}{t':Nat}(I:Inv X ao σ H s)(hv:cA ys aL)(hz:ys.length<=sizeLine) :
  Inv X ao σ (aM H s.heap.objs.size (.lst ys)) { s with heap:=s.heap.push { cls:=.type "list",data:=.seq aL.toArray },toks:=t' } :=
 I.laid (λ_ _ q=>Heap.get?_push_of_some _ q) (fH _) ⟨hz,aL,0,hv,Heap.get?_push_size _ rfl⟩
theorem Inv.fresh(I:Inv X ao σ H s):H s.heap.objs.size=none:=I.hok.fresh (fH _)
theorem Inv.zu(I:Inv X ao σ H s)(hH:H l=some (.lst xs)):xs.length<=sizeLine/\∃ (aL:List Value) (n:Nat),cA xs aL/\xs.length=aL.length/\s.heap.get? l=some { cls:=.type "list",data:=.seq aL.toArray n }:=by
 obtain⟨z,aL,n,r,e⟩:=I.hok l _ hH;exact⟨z,aL,n,r,r.length,e⟩
theorem zw{n:Nat}(h:n<=sizeLine):Builtin.List.listTooLong n=false:=by
 unfold Builtin.List.listTooLong;exact decide_eq_false ∅
end
section
variable {X:Cx}
inductive Q4(x:V)(vs:List V)(H:Hp)(Q:VK):Prop
 | mk (l:Addr) (xs:List V) (y:V) (_:x=.ref l) (_:vs=[y]) (_:H l=some (.lst xs)) (_:xs.length<sizeLine) (_:Q .gm (aM H l (.lst (xs++[y]))))
theorem bU:XT X "list.append" Q4:=by
 intro ao s σ H x vs v us Q I rx rv h;obtain⟨l,xs,y,rfl,rfl,hH,hz,q⟩:=h;cases rx;obtain⟨u,rfl,ru⟩:=rv.one;obtain⟨z,aL,n,r,hl,e⟩:=I.zu hH;refine call_meets F.slot_list_append ⟨_,e,rfl⟩ F.entry_list_append (F.args_list_append_2 _ _) (PySem.list_append l aL.toArray n u (by rw[gP];lia)) ⟨e,?_⟩;refine⟨.gm,_,I.NO (its':=aL++[u]) hH e (by simp) (r.append (.cons ru .nil)) ?_,rfl,q⟩;rw[cP,qD];lia
inductive Q5(x:V)(vs:List V)(H:Hp)(Q:VK):Prop
 | mk (l b:Addr) (xs zs:List V) (_:x=.ref l) (_:vs=[.ref b]) (_:H l=some (.lst xs)) (_:H b=some (.lst zs)) (_:xs.length+zs.length<=sizeLine) (_:Q .gm (aM H l (.lst (xs++zs))))
theorem j0:XT X "list.extend" Q5:=by
 intro ao s σ H x vs v us Q I rx rv h;obtain⟨l,b,xs,zs,rfl,rfl,hH,hB,hz,q⟩:=h;cases rx;obtain⟨u,rfl,ru⟩:=rv.one;cases ru;obtain⟨z,aL,n,r,hl,e⟩:=I.zu hH;obtain⟨z2,its2,n2,r2,xW,e2⟩:=I.zu hB;have hsz:aL.toArray.size+its2.toArray.size<=sizeLine:=by rw[gP,gP];lia
 have EL:¬ (!aL.toArray.isEmpty&&Builtin.List.listTooLong (aL.toArray.size+its2.toArray.size))=true:=by
  rw[zw hsz,Bool.and_false];exact gf
 refine call_meets F.slot_list_extend ⟨_,e,rfl⟩ F.entry_list_extend (F.args_list_extend_2 _ _) (AutoSeq1.list_extend_list_list_0 l aL.toArray n b its2.toArray n2 EL (by rw[gP];lia) ∅) ⟨e,e2,?_⟩;refine⟨.gm,_,I.NO (its':=aL++its2) hH e (by simp) (r.append r2) ?_,rfl,q⟩;rw[cP];lia
def adf:V->List V->Hp->VK->Prop:=λx vs H Q=>∃ l xs y,x=.ref l/\vs=[]/\H l=some (.lst xs)/\xs[xs.length-1]?=some y/\Q y (aM H l (.lst xs.dropLast))
theorem NP:XT X "list.pop" adf:=by
 intro ao s σ H x vs v us Q I rx rv h;obtain⟨l,xs,y,rfl,rfl,hH,hy,q⟩:=h;cases rx;have hus:=rv.zero;subst hus;obtain⟨z,aL,n,r,hl,e⟩:=I.zu hH;obtain⟨u,hu,ru⟩:=r.get hy
 have hy':aL.toArray[aL.toArray.size-1]?=some u:=by
  show aL.toArray[aL.length-1]?=some u;rw[← Array.getElem?_toList,← hl];exact hu
 refine call_meets F.slot_list_pop ⟨_,e,rfl⟩ F.entry_list_pop (F.args_list_pop_1 _) (MeetsSeq.list_pop_last l aL.toArray n u hy' (by rw[gP];lia)) ⟨e,?_⟩;refine⟨y,_,I.NO (its':=aL.dropLast) hH e ?_ r.dropLast ?_,ru,q⟩
 ·show aL.toArray.eraseIdxIfInBounds (aL.toArray.size-1)=aL.dropLast.toArray;rw[gP,List.eraseIdxIfInBounds_toArray,Hv]
 ·rw[List.length_dropLast];lia
def VI:V->List V->Hp->VK->Prop:=λx vs H Q=>∃ l xs i k y,x=.ref l/\vs=[.int i]/\H l=some (.lst xs)/\-(2^63)<=i/\i<2^63/\seqIndex? i xs.length=some k/\xs[k]?=some y/\Q y (aM H l (.lst (xs.eraseIdx k)))
theorem NQ:XT X "list.pop" VI:=by
 intro ao s σ H x vs v us Q I rx rv h;obtain⟨l,xs,i,k,y,rfl,rfl,hH,h1,h2,hk,hy,q⟩:=h;cases rx;obtain⟨u,rfl,ru⟩:=rv.one;obtain⟨t,rfl⟩:=ru;obtain⟨z,aL,n,r,hl,e⟩:=I.zu hH;obtain⟨w,hw,kZ⟩:=r.get hy;refine call_meets F.slot_list_pop ⟨_,e,rfl⟩ F.entry_list_pop (F.args_list_pop_2 _ _) (MeetsSeq.list_pop_at l aL.toArray n i t k w (fitsIndex_both h1 h2) (by rw[gP,← hl];exact hk) (by rw[← Array.getElem?_toList];exact hw) (by rw[gP];lia)) ⟨e,?_⟩;refine⟨y,_,I.NO (its':=aL.eraseIdx k) hH e ?_ (r.eraseIdx k) ?_,kZ,q⟩
 ·show aL.toArray.eraseIdxIfInBounds k=(aL.eraseIdx k).toArray;rw[List.eraseIdxIfInBounds_toArray]
 ·have:=BH xs k;lia
inductive Y6(x y:V)(H:Hp)(Q:VK):Prop
 | mk (l b:Addr) (xs zs:List V) (_:x=.ref l) (_:y=.ref b) (_:H l=some (.lst xs)) (_:H b=some (.lst zs)) (_:xs.length+zs.length<=sizeLine) (_:∀ p,H p=none->Q (.ref p) (aM H p (.lst (xs++zs))))
theorem jh:uf X (binaryOp .Add) Y6:=by
 intro ao s σ H x y v u Q I rx ry h;obtain⟨l,b,xs,zs,rfl,rfl,hH,hB,hz,q⟩:=h;cases rx;cases ry;obtain⟨z,aL,n,r,hl,e⟩:=I.zu hH;obtain⟨z2,its2,n2,r2,xW,e2⟩:=I.zu hB;refine PySem.P.add_list e e2 ?_ (by rw[gP,gP];lia);have ea:aL.toArray++its2.toArray=(aL++its2).toArray:=by simp
 rw[ea];exact⟨.ref _,_,I.Q3 (t':=s.toks) (r.append r2) (by rw[cP];lia),rfl,q _ I.fresh⟩
def Y7:R2:=λx y H Q=>∃ l k xs,x=.ref l/\y=.int k/\H l=some (.lst xs)/\-(2^63)<=k/\k<2^63/\xs.length*k.toNat<=sizeLine/\
 ∀ p,H p=none->Q (.ref p) (aM H p (.lst (List.replicate k.toNat xs).flatten))
theorem Q6{α:Type}(xs:List α)(k:Nat):(List.replicate k xs).flatten.length=k*xs.length:=by
 induction k with
 | zero=>simp
 | succ k ih=>rw[List.replicate_succ,List.flatten_cons,cP,ih,Nat.succ_mul,Nat.add_comm]
theorem NR:uf X (binaryOp .Mult) Y7:=by
 intro ao s σ H x y v u Q I rx ry h;obtain⟨l,k,xs,rfl,rfl,hH,h1,h2,hz,q⟩:=h;cases rx;obtain⟨t,rfl⟩:=ry;obtain⟨z,aL,n,r,hl,e⟩:=I.zu hH;have dO:aL.toArray.size*k.toNat<=sizeLine:=by rw[gP,← hl];exact hz
 have hcap:¬ aL.toArray.size*k.toNat > (2^63-1) / 8:=by
  have:(sizeLine:Nat)<=(2^63-1) / 8:=by decide
  lia
 have hfit:¬ (!Builtin.List.listFitsIndex k)=true:=by
  rw[fitsIndex_both h1 h2];exact gf
 have EL:¬ Builtin.List.listTooLong (aL.toArray.size*k.toNat)=true:=by
  rw[zw dO];exact gf
 have hnew:List.foldl (λx1 x2=>x1++x2) #[] (List.replicate (if aL.toArray.isEmpty=true then 0 else k.toNat) aL.toArray)=(List.replicate k.toNat aL).flatten.toArray:=by
  have f0:∀ m:Nat,List.foldl (λx1 x2=>x1++x2) #[] (List.replicate m aL.toArray)=(List.replicate m aL).flatten.toArray:=λm=>by
   have:=foldl_rep aL m [];rw[List.nil_append]at this;exact this
  rw[f0]
  cases aL with
  | nil=>simp
  | cons a r'=>rw[if_neg (by simp)]
 refine wpAny_binaryOp_repeat_ref (T:="list") (U:="int") (by decide) ⟨_,e,rfl⟩ (λs'=>typeIs_int s' k t) noFill_list_mul F.fills_int_mul F.slot_int_rmul repeat_list F.slot_int_index.lookup (call_meets F.slot_int_rmul (typeIs_int s k t) F.entry_int_rmul (F.args_int_rmul_2 _ _) (int___rmul___int_list k t l aL.toArray n) ⟨e,rfl,⟨_,e,rfl⟩,call_meets F.slot_list_mul ⟨_,e,rfl⟩ F.entry_list_mul (F.args_list_mul_2 _ _) (AutoListH.list___mul___list_int_3 l aL.toArray n k t hfit hcap EL) ⟨e,?_⟩⟩);rw[hnew];exact⟨.ref _,_,I.Q3 (t':=s.toks) (r.rep k.toNat) (by rw[Q6,Nat.mul_comm];exact hz),rfl,q _ I.fresh⟩
end
end L2
namespace Att
open PySem.W Calls Rows
theorem yx{P:Params}{h:Heap}:∀ (ns:List Int) (vs:List Value),WellAll P h vs (ns.map WData.int)->IntsAre vs ns:=by
 intro ns
 induction ns with
 | nil =>
  intro vs w;rw[List.map_nil]at w;cases w;exact .nil
 | cons n ns ih =>
  intro vs w;rw[jv]at w
  cases w with
  | cons a b =>
   cases a;exact .cons _ _ (ih _ b)
theorem Li{l:OpenLaw}{n:Nat}(hn:l.most=some n){P:Params}{h:Heap}{args:List WData}{VJ:List Value}
  (Q7:l.row.toRowW.claim.pre args=true) (hwl:WellAll P h VJ args) :
  ∃ a vs ns,VJ=[Value.ref a]/\args=[WData.list (ns.map WData.int)]/\h.get? a=some { cls:=.type "list",data:=.seq vs.toArray }/\IntsAre vs ns/\ns.length<=n:=by
 have xX:WShape.hasAll [] args [.list .int]=true:=(pre_splitW Q7).1;have hc:l.pre.holds [] { args:=args }=true:=(pre_splitW Q7).2;obtain⟨d,r,rfl,h1,h2⟩:=hasAllW_cons xX;obtain rfl:=hasAllW_nil h2;obtain⟨xs,rfl,h3⟩:=hasW_list h1;obtain⟨ns,rfl⟩:=items_int h3
 have dO:ns.length<=n:=by
  unfold OpenLaw.pre at hc
  have h4:(WTm.not (.lt (.lit (.int (n:Int))) (.len (.arg 0)))).holds [] { args:=[.list (ns.map .int)] }=true:=by
   have h4:=(holds_andW hc).1;rw[hn]at h4;exact h4
  have h5:=condW_of h4 (w_not (w_lt w_lit (w_len_list (w_arg rfl))));rw[cz]at h5;refine Nat.le_of_not_lt λq=>?_;have q':(n:Int)<((ns.length:Nat):Int):=by lia
  first
   | (rw[decide_eq_true q']at h5;exact absurd h5 (by decide))
   | (simp at h5;lia)
 cases hwl with
 | cons w1 w2 =>
  cases w2
  cases w1 with
  | list ho NS=>exact⟨P,ns,V,ho,yx ns _ NS,dO⟩
theorem Lj(l:OpenLaw)(args:List WData):l.row.toRowW.claim.post args (.bool true) args=true :=
 postW_of (r:=l.row.toRowW) (X:=(true == true))
  (show WShape.has [] (.bool true) .bool=true by first|rfl|decide|simp[WShape.has,WShape.arms,WShape.armsAll])
  (show (WTm.eq .res (.lit (.bool true))).value [] { args:=args,res:=some (.bool true),after:=args }=some (.bool (true == true)) from w_eq_bool (w_res rfl) w_lit) rfl
theorem EM{l:OpenLaw}{n:Nat}{q:Program}{BI:List Str}{XP:(Str->Option Value)->Heap->Prop}{YP:World->Heap->Prop}{d:DefRec}
  (hn:l.most=some n) (Y8:d.params.defaults=[])
  (call:∀ (w:World) (s₀ s₁:Shared) (mg mb:Str->Option Value) (fa:Addr) (o:Obj) (pm cd xU:Value) (a:Addr) (vs:List Value) (ns:List Int),
   Ground q BI [] XP w s₀ mg mb s₁.heap->YP w s₁.heap->
   s₁.heap.get? fa=some o->o.data=.func (docDef d.name d.params d.body d.scope pm cd xU)->s₁.heap.CodeRec cd d.name->mg d.name=some (.ref fa)->
   s₁.heap.get? a=some { cls:=.type "list",data:=.seq vs.toArray }->IntsAre vs ns->ns.length<=n->s₁.gens=#[]->
   codeAny (model l.prog w) callerA (.call (.ref fa) ⟨[.ref a],[]⟩) (λr s'=>r=.ok (.ret (.bool true))/\OldK s₁.heap s'.heap/\s'.os=s₁.os/\AllBare s'.gens) s₁) :
  WalkO q BI XP YP l.row.toRowW d [] (λf vs=>PySem.call f vs):=by
 intro w s₀ s₁ mg mb G Y fa o pm cd xU dV kV ho hd Nh hD Y9 hg args VJ as Q7 ajG hrd hwl hlo;obtain rfl:dV=.none:=Dflts.none hD Y8;obtain rfl:kV=.none:=Dflts.noKw hD;obtain⟨a,vs,ns,rfl,rfl,VL,NT,dO⟩:=Li hn Q7 hwl;refine enter_call (codeAny_mono (call w s₀ s₁ mg mb fa o pm cd xU a vs ns G Y ho (fd_plain hd) Nh Y9 VL NT dO hg) λr s' hq=>?_);obtain⟨rfl,h2,h3,h4⟩:=hq;exact⟨.inl ⟨.bool true,.bool true,[],rfl,λ_=>rfl,.bool true,Lj l _,λ_=>⟨List.Pairwise.nil,λ_ hm=>(nomatch hm)⟩⟩,h2,h3,h4⟩
end Att
namespace L2
open Spec Rows
theorem BJ:∀ {vs:List Value} {ns:List Int},IntsAre vs ns->cA (ns.map V.int) vs
 | _,_,.nil=>.nil
 | _,_,.cons n t h=>.cons ⟨t,rfl⟩ (BJ h)
def VM(H:Hp):Prop:=∀ b,H b=none\/∃ o xs,H b=some (.JC o (.lst xs))
theorem NU{P:Program}{w:World}{K:Frag}{mg mb:Str->Option Value}{CX:Nz}{k:Nat}{fa a:Addr}{fd:FuncData}{x:Str}{sp:Sp}{s₁:Shared}{vs:List Value}{ns:List Int}
  (KX:K.In s₁.heap) (MU:s₁.heap.Ns mainGlobals mg) (hb:s₁.heap.Ns builtinsNs mb) (hbb:∀ x:Str,x≠"__name__"->mb x=bootBuiltins x) (adh:s₁.heap.NoLimit) (hg:s₁.gens=#[])
  (ha:s₁.heap.get? a=some { cls:=.type "list",data:=.seq vs.toArray }) (hi:IntsAre vs ns) (hl:ns.length<=sizeLine) (hr:jg k callerA)
  (F:∀ zt:Heap,K.In zt->zt.Ns mainGlobals mg->bq P w K mg zt CX k fa fd [x] sp) (Za:∀ (s:Shared) (u:Value),BindsTo s fd ⟨[u],[]⟩ [(x,u)])
  (Lg:∀ H:Hp,VM H->bI K H a (ns.map V.int)->sp [.ref a] H (λv _=>v=.bl true) λ_ _ _=>False)
  (hCX:∀ H e s',CX [] H s₁ (λ_ _ _=>False) e s'->False) :
  codeAny (model P w) callerA (.call (.ref fa) ⟨[.ref a],[]⟩) (λr s'=>r=.ok (.ret (.bool true))/\OldK s₁.heap s'.heap/\s'.os=s₁.os/\AllBare s'.gens) s₁:=by
 have rv:=BJ hi;have adj:=hi.length
 have core:∀ H:Hp,VM H->bI K H a (ns.map V.int)->vd P w H s₁.heap->(∀ b,H b≠none->b=a)->(H a≠none->K.lookup a=none)->
   codeAny (model P w) callerA (.call (.ref fa) ⟨[.ref a],[]⟩) (λr s'=>r=.ok (.ret (.bool true))/\OldK s₁.heap s'.heap/\s'.os=s₁.os/\AllBare s'.gens) s₁:=by
  intro H hO hS hok hA hK;have JX:∀ {b:Addr} {o:Obj},s₁.heap.get? b=some o->H b=none->(CK s₁.heap H).get? b=some o:=λe n=>Nd e n
  have YV:∀ {b:Addr} {o:Obj} {es:Array DictEntry} {ep:Nat},s₁.heap.get? b=some o->o.data=.dict es ep->H b=none:=λ{b o es ep} e d=>by
   cases q:H b with
   | none=>rfl
   | some u =>
    have e':b=a:=hA b (by rw[q];simp);subst e';rw[ha]at e;cases e;have d':Data.seq vs.toArray _=Data.dict es ep:=d;cases d'
  have nsK:∀ {b:Addr} {m:Str->Option Value},s₁.heap.Ns b m->(CK s₁.heap H).Ns b m:=λ{b m} ⟨o,es,ep,e,d,r⟩=>⟨o,es,ep,JX e (YV e d),d,r⟩
  have hKb:K.In (CK s₁.heap H):=λb o e=>JX (KX b o e) (by
   cases q:H b with
   | none=>rfl
   | some u =>
    have e':b=a:=hA b (by rw[q];simp);subst e'
    rw[hK (by rw[q];simp)]at e;cases e)
  have hM:Mod K mg (CK s₁.heap H):=⟨hKb,nsK MU,⟨mb,nsK hb,hbb⟩,let ⟨mc,h1,h2⟩:=adh;⟨mc,nsK h1,h2⟩⟩;have e0:Ho P w K mg (CK s₁.heap H) callerA [] s₁ H:=⟨rfl,hM,λb o e=>QL e,Nat.le_of_eq (KQ _ _),trivial,λb hb=>absurd (show b∈([]:List Addr) from hb) (by simp),hok,.of_eq hg⟩;refine codeAny_mono ((F _ hKb (nsK MU)).run callerA [] s₁ H ⟨[.ref a],[]⟩ [.ref a] [.ref a] _ _ hr e0 (Za s₁ (.ref a)) (.cons rfl .nil) (Lg H hO hS)) λr s' h=>?_
  cases r with
  | error e=>exact (hCX H e s' h).elim
  | ok fl =>
   cases fl with
   | next=>exact False.elim h
   | brk=>exact False.elim h
   | cont=>exact False.elim h
   | ret u =>
    obtain⟨v,H',os,bare,un,adk,r',q⟩:=h;have q':v=.bl true:=q;subst q';obtain rfl:u=Value.bool true:=r';refine⟨rfl,OldK.of_keep λb o e=>?_,os,bare⟩
    cases q:H b with
    | none=>exact un.keep b o e q (by intro z;exact absurd (show b∈([]:List Addr) from z) (by simp)) (by simp)
    | some u =>
     rcases hO b with z|⟨ob,xs,z⟩
     ·rw[q]at z;cases z
     ·have z2:=un.CJ b ob _ z;obtain⟨e1,_⟩:=hok b _ z;obtain⟨e2,_⟩:=adk b _ z2;rw[e]at e1;cases e1;exact e2
 cases hk:K.lookup a with
 | some o =>
  have e:=KX a o hk;rw[ha]at e;cases e;refine core (λ_=>none) (λ_=>.inl rfl) (.inr ⟨_,vs.toArray,_,hk,V,rfl,by rw[gP,adj];exact hl,by simpa using rv⟩) (λb u z=>by have z':(none:Option HO)=some u:=z;cases z') (λb z=>absurd rfl z) λz=>absurd rfl z
 | none =>
  refine core (λb=>if b=a then some (.JC { cls:=.type "list",data:=.seq vs.toArray } (.lst (ns.map V.int))) else none) (λb=>?_) (.inl (.inr ⟨{ cls:=.type "list",data:=.seq vs.toArray },if_pos rfl⟩)) (λb u z=>?_) (λb z=>?_) λ_=>hk
  ·by_cases hb:b=a
   ·exact .inr ⟨P,if_pos hb⟩
   ·exact .inl (if_neg hb)
  ·by_cases hb:b=a
   ·have z':=(if_pos hb).symm.trans z;cases z';subst hb;exact⟨ha,by rw[cz];exact hl,vs,_,rv,ha⟩
   ·have z':=(if_neg hb).symm.trans z;cases z'
  ·by_cases hb:b=a
   ·exact hb
   ·exact absurd (if_neg hb) z
end L2
namespace L2
open Spec Rows
theorem Q8{l:PySem.W.OpenLaw}{n k:Nat}{q:Program}{BI:List Str}{XP:(Str->Option Value)->Heap->Prop}{YP:World->Heap->Prop}{d:DefRec}{K:Params->Frag}{CX:World->Nz}{sp:World->Sp}{x:Str}
  (hn:l.most=some n) (hn2:n<=sizeLine) (Y8:d.params.defaults=[]) (hr:jg k callerA)
  (hY:∀ (w:World) (h:Heap),YP w h->(K w.params).In h)
  (F:∀ (w:World) (mg:Str->Option Value) (fa:Addr) (h:Heap),(K w.params).In h->h.Ns mainGlobals mg->mg d.name=some (.ref fa)->
   ∃ fd:FuncData,(∀ (s:Shared) (u:Value),BindsTo s fd ⟨[u],[]⟩ [(x,u)])/\
    ∀ zt:Heap,(K w.params).In zt->zt.Ns mainGlobals mg->bq l.prog w (K w.params) mg zt (CX w) k fa fd [x] (sp w))
  (Lg:∀ (w:World) (H:Hp) (a:Addr) (ns:List Int),ns.length<=n->VM H->bI (K w.params) H a (ns.map V.int)->sp w [.ref a] H (λv _=>v=.bl true) λ_ _ _=>False)
  (hCX:∀ (w:World) (H:Hp) (s:Shared) (e:Value) (s':Shared),CX w [] H s (λ_ _ _=>False) e s'->False) :
  PySem.W.WalkO q BI XP YP l.row.toRowW d [] (λf vs=>PySem.call f vs):=by
 refine Att.EM hn Y8 λw s₀ s₁ mg mb fa o pm cd xU a vs ns G Y ho hd Nh Y9 VL NT dO hg=>?_;have KX:=hY w _ Y;obtain⟨fd,hb,hF⟩:=F w mg fa _ KX G.T.g Y9;exact NU KX G.T.g G.T.b G.T.builtins G.T.nolimit hg VL NT (gR dO hn2) hr hF hb (λH hO hS=>Lg w H a ns dO hO hS) λH e s'=>hCX w H s₁ e s'
end L2
namespace L2
open Spec Rows
def nI(s:Stmt):Arguments:=match s with
 | .FunctionDef _ a _ _ _ _ _ _ _ _=>a
 | _=>{ posonlyargs:=[],args:=[],vararg:=none,kwonlyargs:=[],kw_defaults:=[],kwarg:=none,defaults:=[] }
def jz(s:Stmt):List Stmt:=match s with
 | .FunctionDef _ _ b _ _ _ _ _ _ _=>b
 | _=>[]
def aA(s:Stmt):Scope:=match s with
 | .FunctionDef _ _ _ _ _ _ sc _ _ _=>sc
 | _=>{ kind:=.function,names:=[],isGenerator:=false,isCoroutine:=false }
abbrev cM:Nz:=λ_ _ _ _ _ _=>False
abbrev E0:XK:=λ_ _ _=>False
theorem bN{X:Cx}:nX cM X E0:=λ_ _ _ _ _ _ _ h=>h.elim
structure Q9(K:Frag)(x fJ:Str)(st:Stmt)(f:Addr)(fd:FuncData):Prop where
 ex:∃ (oc:Value) (od:Option Addr) (kV xU pm:Value) (an:Option Addr) (dm ct:Value) (MT:Array (Option Value)),
  fd=fnOf x fJ (nI st) (jz st) (aA st) .none kV xU pm an dm ct/\K.lookup f=some ⟨oc,od,.func fd,MT⟩/\codeIn K dm fJ=true
 kp:keepIn K (.ref f)=true
section
variable {P:Program} {w:World} {K:Frag} {mg:Str->Option Value} {zt:Heap}
theorem Q9.ok{x fJ:Str}{st:Stmt}{f:Addr}{N ps:List Str}{k:Nat}{sp:Sp}(F:Q9 K x fJ st f fd)(S:aH N ps (aA st))(len:∀ vs H Q E,sp vs H Q E->vs.length=ps.length)
  (EK:∀ (dm:Value) (A:Around) (zn:List Env) (s:Shared) (H:Hp) (vs:List V) (Q:VK) (E:XK),jg k (A.deeper (envOfC fJ (aA st) s.heap.objs.size f dm))->sp vs H Q E->
   ∃ t,JG (Hq cM P w K mg zt N fJ (aA st) f dm A zn s H E).KS (jz st) t/\t { nx:=λ_ H'=>Q .gm H',rt:=Q } (start N vs) H):bq P w K mg zt cM (k+1) f fd ps sp:=by
 obtain⟨oc,od,kV,xU,pm,an,dm,ct,MT,rfl,lk,Nh⟩:=F.ex;refine YW lk Nh S len λA zn s H vs Q E hr Lg=>?_;obtain⟨t,h,q⟩:=EK dm A zn s H vs Q E hr Lg;exact⟨t,h.KS,q⟩
theorem Q9.binds{x fJ:Str}{st:Stmt}{f:Addr}{ps:List Str}(F:Q9 K x fJ st f fd)
  (h:∀ (kV xU pm:Value) (an:Option Addr) (dm ct:Value) (us:List Value),us.length=ps.length->bindArgs (fnOf x fJ (nI st) (jz st) (aA st) .none kV xU pm an dm ct) ⟨us,[]⟩=pure (ps.zip us)):Binds K fd ps []:=by
 obtain⟨oc,od,kV,xU,pm,an,dm,ct,MT,rfl,lk,Nh⟩:=F.ex;exact .all (h kV xU pm an dm ct)
theorem Hw{x fJ:Str}{st:Stmt}{f:Addr}{oc:Value}{od an:Option Addr}{MT:Array (Option Value)}{kV xU pm dm ct:Value}(l:K.lookup f=some ⟨oc,od,.func (fnOf x fJ (nI st) (jz st) (aA st) .none kV xU pm an dm ct),MT⟩)
  (c:codeIn K dm fJ=true) (k:keepIn K (.ref f)=true):Q9 K x fJ st f (fnOf x fJ (nI st) (jz st) (aA st) .none kV xU pm an dm ct):=⟨⟨oc,od,kV,xU,pm,an,dm,ct,MT,rfl,l,c⟩,k⟩
end
theorem gT{A:Around}{k:Nat}(hr:jg k A):A.units+1<cLine:=Nat.lt_of_le_of_lt (Nat.add_le_add_left (by decide:1<=64) _) hr.units
section
variable {X:Cx}
theorem pv(i:Nat){x:Str}{pos:Pos}(hN:X.N[i]?=some x:=by rfl)(hv:Vis X.env.scope x:=by first|exact Or.inl rfl|exact Or.inr (Or.inl rfl)|exact Or.inr (Or.inr rfl))(hd:(x == ("__debug__":Str))=false:=by decide)
  (Nh:(x == ("__classdict__":Str))=false:=by decide):PE X (.Name x pos) (Vi i):=Vj hN hv hd Nh
end
theorem gh{A B:Prop}(h:B):if false=true then A else B:=by
 rw[if_neg gf];exact h
theorem jA{A B:Prop}(h:A):if true=true then A else B:=by
 rw[if_pos rfl];exact h
theorem cW{c A B:Prop} [Decidable c] (h1:c->A) (h2:¬ c->B):if c then A else B:=by
 by_cases h:c
 ·rw[if_pos h];exact h1 h
 ·rw[if_neg h];exact h2 h
theorem NV{c A B:Prop} [Decidable c] (hc:c) (h:B):if (!decide c)=true then A else B:=by
 rw[decide_eq_true hc];exact gh h
def aK(H H':Hp):Prop:=∀ b o,H b=some o->H' b=some o
theorem aK.refl(H:Hp):aK H H:=λ_ _ h=>h
theorem aK.trans{H H1 H2:Hp}(a:aK H H1)(b:aK H1 H2):aK H H2:=λc o h=>b c o (a c o h)
theorem aK.free{H H':Hp}(e:aK H H'){l:Addr}(h:H' l=Option.none):H l=Option.none:=by
 cases q:H l with
 | none=>rfl
 | some o =>
  rw[e l o q]at h;cases h
end L2
namespace gx
open L2
def top(i:Nat):Stmt:=PySem.Challenge.pw_inkroot_k49_whole_strikes_commute.main.body.getD i (.Pass ⟨0,0,0,0⟩)
def Rc:Stmt->List Stmt
 | .ClassDef (body:=b) ..=>b
 | _=>[]
def gU(i j:Nat):Stmt:=(Rc (top i)).getD j (.Pass ⟨0,0,0,0⟩)
inductive DI(K:Frag)(x:Str)(st:Stmt)(f:Addr):Prop
 | mk {oc:Value} {od an:Option Addr} {MT:Array (Option Value)} {kV xU pm dm ct:Value} (_:nsIn K mainGlobals x=some (some (.ref f))) (_:K.lookup f=some ⟨oc,od,.func (fnOf x x (nI st) (jz st) (aA st) .none kV xU pm an dm ct),MT⟩) (_:codeIn K dm x=true) (_:keepIn K (.ref f)=true)
inductive MI(K:Frag)(C:Addr)(x fJ:Str)(st:Stmt)(f:Addr):Prop
 | mk {oc:Value} {od an:Option Addr} {MT:Array (Option Value)} {kV xU pm dm ct:Value} (_:findIn K (.ref C) x=some (some (.ref f))) (_:isFn K (.ref f)=true) (_:K.lookup f=some ⟨oc,od,.func (fnOf x fJ (nI st) (jz st) (aA st) .none kV xU pm an dm ct),MT⟩) (_:codeIn K dm fJ=true) (_:keepIn K (.ref f)=true)
inductive CI(K:Frag)(x:Str)(C:Addr):Prop
 | mk (_:nsIn K mainGlobals x=some (some (.ref C))) (_:plainGet K C Str.empty=true) (_:hasDictIn K C=true) (_:plainOver K C=true) (_:findIn K (.ref C) "__setattr__"=some (some (.builtin "object.__setattr__"))) (_:makesIn K C=true) (_:keepIn K (.ref C)=true)
class inductive NW(K:Frag)
 | mk (a:Addr) (ns:List Int) (_:vs=[.ref a]) (_:bI K H a (ns.map V.int)) (_:ns.length<=63) (_: ∀ H',Q (.bl true) H')
abbrev wN:Stmt:=top 70
abbrev uh:Stmt:=top 71
abbrev qY:Stmt:=top 72
abbrev um:Stmt:=top 73
abbrev Hx:Stmt:=top 11
abbrev JY:Stmt:=top 12
abbrev nY:Stmt:=top 14
abbrev CV:Stmt:=top 15
abbrev NY:Stmt:=top 16
abbrev lg:Stmt:=gU 27 0
abbrev CY:Stmt:=top 20
abbrev lu:Stmt:=top 22
abbrev uo:Stmt:=top 24
abbrev vv:Stmt:=top 31
abbrev CZ:Stmt:=top 32
abbrev pH:Stmt:=top 39
abbrev NZ:Stmt:=top 40
abbrev pI:Stmt:=top 37
abbrev jB:Stmt:=top 38
abbrev wO:Stmt:=top 33
abbrev lW:Stmt:=top 34
abbrev Hy:Stmt:=top 35
abbrev zx:Stmt:=top 42
abbrev pJ:Stmt:=top 43
abbrev C0:Stmt:=top 44
abbrev Hz:Stmt:=top 45
abbrev uq:Stmt:=top 46
abbrev uu:Stmt:=top 48
abbrev C1:Stmt:=top 47
abbrev uv:Stmt:=top 49
abbrev pK:Stmt:=top 50
abbrev pM:Stmt:=top 51
abbrev nZ:Stmt:=top 52
abbrev pN:Stmt:=top 54
abbrev qZ:Stmt:=top 55
abbrev zy:Stmt:=top 57
abbrev ly:Stmt:=gU 58 0
abbrev ux:Stmt:=gU 58 3
abbrev rf:Stmt:=gU 58 2
abbrev rj:Stmt:=gU 58 1
abbrev ji:Stmt:=gU 58 4
abbrev iO:Stmt:=gU 58 5
abbrev uy:Stmt:=gU 58 7
abbrev iD:Stmt:=gU 58 10
abbrev rm:Stmt:=gU 58 9
abbrev mL:Stmt:=gU 60 0
abbrev mO:Stmt:=gU 29 0
abbrev mP:Stmt:=gU 62 0
abbrev uz:Stmt:=gU 62 2
abbrev uA:Stmt:=gU 62 1
abbrev nJ:Stmt:=gU 62 6
abbrev pO:Stmt:=top 67
abbrev mQ:Stmt:=gU 68 1
abbrev n8:Stmt:=gU 68 26
abbrev lC:Stmt:=gU 68 2
abbrev mR:Stmt:=gU 68 3
abbrev mS:Stmt:=gU 68 7
abbrev mT:Stmt:=gU 68 30
abbrev n9:Stmt:=gU 68 6
abbrev pP:Stmt:=gU 68 27
abbrev iP:Stmt:=gU 68 4
abbrev pQ:Stmt:=gU 68 8
abbrev jC:Stmt:=gU 68 0
abbrev pR:Stmt:=gU 68 9
abbrev mU:Stmt:=gU 68 11
abbrev pS:Stmt:=gU 68 28
abbrev lD:Stmt:=gU 68 12
abbrev pT:Stmt:=gU 68 13
abbrev oh:Stmt:=gU 68 10
abbrev i9:Stmt:=gU 68 16
abbrev uB:Stmt:=top 92
abbrev pU:Stmt:=top 93
abbrev nK:Stmt:=top 81
abbrev uC:Stmt:=top 82
abbrev uD:Stmt:=top 83
abbrev rA:Stmt:=top 74
abbrev uE:Stmt:=top 76
abbrev oj:Stmt:=top 77
abbrev pV:Stmt:=top 78
abbrev wQ:Stmt:=top 79
abbrev wR:Stmt:=top 80
abbrev om:Stmt:=top 84
abbrev pW:Stmt:=top 75
abbrev pX:Stmt:=top 85
abbrev rB:Stmt:=top 86
abbrev tP:Stmt:=gU 68 14
abbrev uF:Stmt:=top 87
abbrev oq:Stmt:=top 88
abbrev ou:Stmt:=top 89
abbrev uG:Stmt:=top 90
abbrev pY:Stmt:=top 94
abbrev rC:Stmt:=top 95
abbrev rD:Stmt:=top 96
abbrev uH:Stmt:=top 97
abbrev pZ:Stmt:=top 98
abbrev Rf:Stmt:=top 99
end gx
namespace gx
open L2
inductive Pm(K:Frag)(mg:Str->Option Value)(fa:Addr):Prop
 | mk {h:Heap} {AV AW N1:Tok} (d9 gV gO BK EN bJ:Addr) (X:K.In h) (G:h.Ns mainGlobals mg) (hfa:mg "law"=some (.ref fa))
  (JZ:CI K "Shelf" d9)
  (j9:findIn K (.ref d9) "states"=some none)
  (oR:findIn K (.ref d9) "openings"=some none)
  (N3:CI K "Well" gV)
  (wU:findIn K (.ref gV) "signs"=some none)
  (vA:findIn K (.ref gV) "owners"=some none)
  (oS:findIn K (.ref gV) "pourings"=some none)
  (J1:CI K "Blots" gO)
  (yS:findIn K (.ref gO) "stains"=some none)
  (N4:CI K "Ties" BK)
  (C2:findIn K (.ref BK) "given"=some none)
  (C3:findIn K (.ref BK) "pairs"=some none)
  (N5:CI K "Dues" EN)
  (J2:findIn K (.ref EN) "sums"=some none)
  (BL:CI K "Library" bJ)
  (zA:findIn K (.ref bJ) "well"=some none)
  (eY:findIn K (.ref bJ) "shelf"=some none)
  (C4:findIn K (.ref bJ) "blots"=some none)
  (C5:findIn K (.ref bJ) "knots"=some none)
  (J3:findIn K (.ref bJ) "dues"=some none)
  (EO:findIn K (.ref bJ) "book"=some none)
  (q0:DI K "_law_src" wN f0)
  (q1:DI K "_law_next" uh f1)
  (q2:DI K "_law_whole" qY f2)
  (q3:DI K "_law_same" um f3)
  (q4:DI K "plain" Hx f4)
  (q5:DI K "size" JY f5)
  (q6:DI K "check_places" nY f6)
  (q7:DI K "pieces" CV f7)
  (q8:DI K "part" NY f8)
  (q9:MI K gO "__init__" "Blots.__init__" lg f9)
  (BN:DI K "spread" CY f10)
  (q11:DI K "first_reaching" lu f11)
  (q12:DI K "left_over" uo f12)
  (q13:DI K "windows" vv f13)
  (q14:DI K "below" CZ f14)
  (q15:DI K "way_between" pH f15)
  (q16:DI K "ring" NZ f16)
  (q17:DI K "item_weight" pI f17)
  (q18:DI K "weights_below" jB f18)
  (q19:DI K "item_row" wO f19)
  (q20:DI K "views_below" lW f20)
  (q21:DI K "shown" Hy f21)
  (q22:DI K "goes_on" zx f22)
  (q23:DI K "plain_items" pJ f23)
  (q24:DI K "inked" C0 f24)
  (q25:DI K "dealt" Hz f25)
  (q26:DI K "put_among" uq f26)
  (q27:DI K "put_items" uu f27)
  (q28:DI K "parted" C1 f28)
  (q29:DI K "cut_items" uv f29)
  (q30:DI K "moved_items" pK f30)
  (q31:DI K "fixed_items" pM f31)
  (q32:DI K "struck_items" nZ f32)
  (q33:DI K "ink_words" pN f33)
  (q34:DI K "shown_deed" qZ f34)
  (q35:DI K "changed" zy f35)
  (q36:MI K d9 "__init__" "Shelf.__init__" ly f36)
  (q37:MI K d9 "now" "Shelf.now" ux f37)
  (q38:MI K d9 "many" "Shelf.many" rf f38)
  (q39:MI K d9 "step" "Shelf.step" rj f39)
  (q40:MI K d9 "check_sheet" "Shelf.check_sheet" ji f40)
  (q41:MI K d9 "check_moment" "Shelf.check_moment" iO f41)
  (q42:MI K d9 "rows_then" "Shelf.rows_then" iD f42)
  (q43:MI K d9 "rows" "Shelf.rows" rm f43)
  (q44:MI K d9 "row" "Shelf.row" uy f44)
  (q45:MI K BK "__init__" "Ties.__init__" mL f45)
  (q46:MI K EN "__init__" "Dues.__init__" mO f46)
  (q47:MI K gV "__init__" "Well.__init__" mP f47)
  (q48:MI K gV "size" "Well.size" uz f48)
  (q49:MI K gV "pour" "Well.pour" uA f49)
  (q50:MI K gV "holds" "Well.holds" nJ f50)
  (q51:DI K "check_weave" pO f51)
  (q52:MI K bJ "__init__" "Library.__init__" jC f52)
  (q53:MI K bJ "enter" "Library.enter" mQ f53)
  (q54:MI K bJ "change" "Library.change" lC f54)
  (q55:MI K bJ "many" "Library.many" n8 f55)
  (q56:MI K bJ "begin" "Library.begin" mR f56)
  (q57:MI K bJ "fresh" "Library.fresh" mS f57)
  (q58:MI K bJ "ink" "Library.ink" pP f58)
  (q59:MI K bJ "check_held" "Library.check_held" iP f59)
  (q60:MI K bJ "pour" "Library.pour" n9 f60)
  (q61:MI K bJ "put" "Library.put" pQ f61)
  (q62:MI K bJ "shown" "Library.shown" mT f62)
  (q63:MI K bJ "cut" "Library.cut" pR f63)
  (q64:MI K bJ "quote" "Library.quote" mU f64)
  (q65:MI K bJ "row" "Library.row" pS f65)
  (q66:MI K bJ "window" "Library.window" lD f66)
  (q67:MI K bJ "fix" "Library.fix" pT f67)
  (q68:MI K bJ "move" "Library.move" oh f68)
  (q69:MI K bJ "strike" "Library.strike" i9 f69)
  (q70:DI K "_law_sign" uB f70)
  (q71:DI K "_law_text" pU f71)
  (q72:DI K "_law_world" nK f72)
  (q73:DI K "_law_keep" uC f73)
  (q74:DI K "_law_swap" uD f74)
  (q75:DI K "_law_spell" rA f75)
  (q76:DI K "_law_show" uE f76)
  (q77:DI K "_law_reached" oj f77)
  (q78:DI K "_law_pieces" pV f78)
  (q79:DI K "_law_put" wQ f79)
  (q80:DI K "_law_cut" wR f80)
  (q81:DI K "_law_weighed" om f81)
  (q82:DI K "_law_row_of" pW f82)
  (q83:DI K "_law_fits" pX f83)
  (q84:DI K "_law_after" rB f84)
  (q85:MI K bJ "back" "Library.back" tP f85)
  (q86:DI K "_law_done" uF f86)
  (q87:DI K "_law_ink_row" oq f87)
  (q88:DI K "_law_move_by" ou f88)
  (q89:DI K "_law_draw" uG f89)
  (q90:DI K "_law_pour" pY f90)
  (q91:DI K "_law_fresh" rC f91)
  (q92:DI K "_law_begin" rD f92)
  (q93:DI K "_law_both" uH f93)
  (q94:DI K "_law_left" pZ f94)
  (q95:DI K "law" Rf f95)
  (z0:nsIn K mainGlobals "len"=some none)
  (z1:nsIn K mainGlobals "list"=some none)
  (z2:nsIn K mainGlobals "tuple"=some none)
  (z3:nsIn K mainGlobals "int"=some none)
  (z4:nsIn K mainGlobals "bool"=some none)
  (z5:nsIn K mainGlobals "str"=some none)
  (z6:nsIn K mainGlobals "range"=some none)
  (z7:nsIn K mainGlobals "zip"=some none)
  (z8:nsIn K mainGlobals "isinstance"=some none)
  (z9:nsIn K mainGlobals "sum"=some none)
  (z10:nsIn K mainGlobals "min"=some none)
  (z11:nsIn K mainGlobals "max"=some none)
  (z12:nsIn K mainGlobals "all"=some none)
  (z13:nsIn K mainGlobals "sorted"=some none)
  (tQ:nsIn K mainGlobals "MOST_SHEETS"=some (some (.int 40 AV)))
  (tR:nsIn K mainGlobals "MOST_WEIGHT"=some (some (.int 200 AW)))
  (ER:nsIn K mainGlobals "HIDDEN"=some (some (.str "#" N1)))
  (vB:nsIn K mainGlobals "size_spans"=some (some (.ref f5)))
  (tS:nsIn K mainGlobals "shown_weave"=some (some (.ref f21)))
def Ub:Prop:=∀ {P:Program} {w:World} {K:Frag} {mg:Str->Option Value} {fa:Addr},Pm K mg fa->∃ fd:FuncData,(∀ (s:Shared) (v:Value),BindsTo s fd ⟨[v],[]⟩ [("_law_script",v)])/\∀ zt:Heap,K.In zt->zt.Ns mainGlobals mg->bq P w K mg zt cM 47 fa fd ["_law_script"] (NW K)
theorem walk{l:PySem.W.OpenLaw}{q:Program}{BI:List Str}{XP:(Str->Option Value)->Heap->Prop}{YP:World->Heap->Prop}{d:DefRec}{K:Params->Frag}(hn:l.most=some 63)(Y8:d.params.defaults=[])
  (hY:∀ (w:World) (h:Heap),YP w h->(K w.params).In h)
  (F:∀ (w:World) (mg:Str->Option Value) (fa:Addr) (h:Heap),(K w.params).In h->h.Ns mainGlobals mg->mg d.name=some (.ref fa)->
   ∃ fd:FuncData,(∀ (s:Shared) (u:Value),BindsTo s fd ⟨[u],[]⟩ [("_law_script",u)])/\∀ zt:Heap,(K w.params).In zt->zt.Ns mainGlobals mg->bq l.prog w (K w.params) mg zt cM 47 fa fd ["_law_script"] (NW (K w.params))) :
  PySem.W.WalkO q BI XP YP l.row.toRowW d [] (λf vs=>PySem.call f vs) :=
 L2.Q8 (n:=63) (k:=47) (x:="_law_script") (CX:=λ_=>cM) (sp:=λw=>NW (K w.params)) hn (by decide) Y8 ⟨rfl,E,E⟩ hY F (λ_ _ a ns hl _ hS=>⟨a,ns,rfl,hS,hl,λ_=>rfl⟩) λ_ _ _ _ _ z=>z
end gx
namespace InkHd
open PySem.W Rows
set_option maxRecDepth 100000 in
set_option maxHeartbeats 0 in
theorem hd2(A:gx.Ub):PySem.Challenge.rw_inkroot_k49_whole_strikes_commute.Holds:=by
 refine hd_k49 ?_
 k_fill
 refine gx.walk (l:=PySem.Challenge.rw_inkroot_k49_whole_strikes_commute) rfl rfl (λw h Y=>kIn_of Y) ?F
 case F =>
  intro w mg fa h KX G Y9
  refine' A (.mk _ _ _ _ _ _ KX G Y9 (.mk ..) _ _ (.mk ..) _ _ _ (.mk ..) _ (.mk ..) _ _ (.mk ..) _ (.mk ..) _ _ _ _ _ _ (.mk ..) (.mk ..) (.mk ..) (.mk ..) (.mk ..) (.mk ..) (.mk ..) (.mk ..) (.mk ..) (.mk ..) (.mk ..) (.mk ..) (.mk ..) (.mk ..) (.mk ..) (.mk ..) (.mk ..) (.mk ..) (.mk ..) (.mk ..) (.mk ..) (.mk ..) (.mk ..) (.mk ..) (.mk ..) (.mk ..) (.mk ..) (.mk ..) (.mk ..) (.mk ..) (.mk ..) (.mk ..) (.mk ..) (.mk ..) (.mk ..) (.mk ..) (.mk ..) (.mk ..) (.mk ..) (.mk ..) (.mk ..) (.mk ..) (.mk ..) (.mk ..) (.mk ..) (.mk ..) (.mk ..) (.mk ..) (.mk ..) (.mk ..) (.mk ..) (.mk ..) (.mk ..) (.mk ..) (.mk ..) (.mk ..) (.mk ..) (.mk ..) (.mk ..) (.mk ..) (.mk ..) (.mk ..) (.mk ..) (.mk ..) (.mk ..) (.mk ..) (.mk ..) (.mk ..) (.mk ..) (.mk ..) (.mk ..) (.mk ..) (.mk ..) (.mk ..) (.mk ..) (.mk ..) (.mk ..) (.mk ..) (.mk ..) (.mk ..) (.mk ..) (.mk ..) (.mk ..) (.mk ..) (.mk ..) (.mk ..) (.mk ..) (.mk ..) (.mk ..) (.mk ..) (.mk ..) (.mk ..) (.mk ..) (.mk ..) (.mk ..) (.mk ..) _ _ _ _ _ _ _ _ _ _ _ _ _ _ _ _ _ _ _)
  all_goals try first|k_is|k_exc|kts_exm
end InkHd
namespace cX
open Spec Rows L2
section
variable {X:Cx}
theorem dY:jV X (.builtin "isinstance") (λxs H Q=>∃ x T t b,xs=[x,.ty T]/\kB X.K H x t/\kitOne X.K t (.type T)=some b/\Q (.bl b) H):=by
 intro ao s σ H xs us Q I r h;obtain⟨x,T,t,b,rfl,ty,e,q⟩:=h;obtain⟨u,v,rfl,rx,rv⟩:=r.two;cases (show v=Value.type T from rv);exact Lb I rx ty e λtk=>⟨.bl b,H,I.tok tk,rfl,q⟩
theorem qo{x:Str}{T:String}(hg:Gl X x)(hm:X.mg x=none)(hv:bootBuiltins x=some (.type T))(hn:x≠"__name__":=by decide)(hd:(x == ("__debug__":Str))=false:=by decide):PE X (.Name x pos) (tC (.ty T)) :=
 QN hg hm hv rfl hn hd
end
theorem Rg{X:Cx}{σ:L2.St}{H:Hp}{s:Shared}{h':Heap}{t':Nat}{ch:List Addr}(I:Inv X ao σ H s)(k:∀ b o,b∉ch->s.heap.get? b=some o->h'.get? b=some o)
  (hf:∀ b∈ch,qF X ao H b):Inv X ao σ H { s with heap:=h',toks:=t' }:=by
 have T4:∀ b u,H b=some u->b∉ch:=λb u e z=>by rw[(hf b z).1]at e;cases e
 refine I.step (g':=s.gens) (d':=s.drawn) (ch:=ch) (λb hb=>?_) (λb o _ _ hc e _=>k b o hc e) (λb o _ _ hc e _=>⟨o.slots,k b o hc e⟩) (λ_ _ _ _ n=>n) (λb o hc e=>⟨o,k b o hc e⟩) (λ_ _ e=>e) (λ_ _ _ e=>e) (λb ps e=>⟨#[],by rw[e];simp⟩) (λm hm=>?_) (λb u e=>?_) I.bare
 ·obtain⟨_,f1,_,f3,f4,f5⟩:=hf b hb;exact⟨f3,f1,f4,f5⟩
 ·obtain⟨o,es,ep,ho,r⟩:=hm;exact⟨o,es,ep,k _ o (λz=>(hf _ z).2.1 rfl) ho,r⟩
 ·refine (I.hok b u e).stay (λc v hc q=>k c v ?_ q) (λ_ q=>q) λ_ _ q=>q;rcases hc with z|z
  ·rw[z];exact T4 b u e
  ·exact T4 c _ z
theorem Zb{X:Cx}{σ:L2.St}{H:Hp}{s:Shared}{h':Heap}{t':Nat}{ch:List Addr}{p:Addr}{xs:List V}{us:List Value}(I:Inv X ao σ H s)(k:∀ b o,b∉ch->s.heap.get? b=some o->h'.get? b=some o)
  (hf:∀ b∈ch,qF X ao H b) (hp:s.heap.objs.size<=p) (hz:xs.length<=sizeLine) (rv:cA xs us) (ht:IsTup h' p us.toArray):Inv X ao σ (aM H p (.tup xs)) { s with heap:=h',toks:=t' }:=by
 have hn:H p=none:=I.hok.fresh hp;have T4:∀ b u,H b=some u->b∉ch:=λb u e z=>by rw[(hf b z).1]at e;cases e
 have nep:∀ b o,s.heap.get? b=some o->b≠p:=λb o e z=>by subst z;exact absurd (qN (Heap.lt_size e) hp) (Nat.lt_irrefl _)
 refine I.step (g':=s.gens) (d':=s.drawn) (ch:=ch) (λb hb=>?_) (λb o _ _ hc e _=>k b o hc e) (λb o _ _ hc e _=>⟨o.slots,k b o hc e⟩) (λb o _ e n=>by rw[aJ (nep b o e)];exact n) (λb o hc e=>⟨o,k b o hc e⟩) (λb ys e=>by rw[aJ (az e hn)];exact e) (λb _ _ e=>by rw[aJ (az e hn)];exact e) (λb ps e=>⟨#[],by rw[aJ (az e hn),e];simp⟩) (λm hm=>?_) (λb u e=>?_) I.bare
 ·obtain⟨_,f1,_,f3,f4,f5⟩:=hf b hb;exact⟨f3,f1,f4,f5⟩
 ·obtain⟨o,es,ep,ho,r⟩:=hm;exact⟨o,es,ep,k _ o (λz=>(hf _ z).2.1 rfl) ho,r⟩
 ·by_cases hb:b=p
  ·subst hb;rw[af]at e;cases e;exact⟨hz,us,rv,ht⟩
  ·rw[aJ hb]at e;refine (I.hok b u e).stay (λc v hc q=>k c v ?_ q) (λc q=>by rw[aJ (az q hn)];exact q) λc ys q=>by rw[aJ (az q hn)];exact q
   rcases hc with z|z
   ·rw[z];exact T4 b u e
   ·exact T4 c _ z
def GW(k:Bool)(h:Heap)(i a:Addr)(n:Nat):Prop:=match k with
 | true=>h.IsListIter i a n
 | false=>h.IsTupleIter i a n
def AO(k:Bool)(h:Heap)(a:Addr)(xs:Array Value):Prop:=match k with
 | true=>h.IsList a xs
 | false=>h.IsTuple a xs
theorem GW.at{k:Bool}{h h':Heap}{i a:Addr}{n:Nat}(x:GW k h i a n)(e:∀ o,h.get? i=some o->h'.get? i=some o):GW k h' i a n:=by
 cases k
 ·obtain⟨o,ho,r⟩:=x;exact⟨o,e o ho,r⟩
 ·obtain⟨o,ho,r⟩:=x;exact⟨o,e o ho,r⟩
theorem AO.at{k:Bool}{h h':Heap}{a:Addr}{xs:Array Value}(x:AO k h a xs)(e:∀ o,h.get? a=some o->h'.get? a=some o):AO k h' a xs:=by
 cases k
 ·obtain⟨o,ho,r⟩:=x;exact⟨o,e o ho,r⟩
 ·obtain⟨o,ho,r⟩:=x;exact⟨o,e o ho,r⟩
theorem GW.obj{k:Bool}{h:Heap}{i a:Addr}{n:Nat}(x:GW k h i a n):∃ o,h.get? i=some o/\∀ v,o.data≠.cell v:=by
 cases k
 ·obtain⟨o,ho,_,d⟩:=x;exact⟨o,ho,λv z=>by rw[d]at z;cases z⟩
 ·obtain⟨o,ho,_,d⟩:=x;exact⟨o,ho,λv z=>by rw[d]at z;cases z⟩
section
variable {prog:Program} {w:World} {A:Around} {E:Value->Shared->Prop} {s:Shared}
theorem HH{it t:Addr}{i:Nat}{items:Array Value}{x:Value}{Q:Value->Shared->Prop}(rE:s.heap.IsTupleIter it t i)(ht:s.heap.IsTuple t items)(hx:items[i]?=some x)
  (hQ:∀ h',h'.IsTupleIter it t (i+1)->Heap.SameBut it s.heap h'->Q x { s with heap:=h' }):wpAny (model prog w) A (Builtin.SmallTypes.nextOf (.ref it)) Q E s:=by
 obtain⟨o,ho,hc,hd⟩:=id rE;obtain⟨ol,hol,_,nl,Rh⟩:=ht;unfold Builtin.SmallTypes.nextOf;refine wpAny_bind (wpAny_callSpecial?_slot (name:=Str.ofString "__next__") rE.typeIs F.slot_tuple_iterator_next (wpAny_call_entry F.slot_tuple_iterator_next rE.typeIs F.entry_tuple_iterator_next ?_ (F.args_tuple_iterator_next_1 _)));show wpAny _ _ (field (.ref it) 0 >>= _) _ _ s;refine wpAny_bind (wpAny_field ho hd (x:=.ref t) rfl ?_);show wpAny _ _ (if (Value.ref t == Value.none)=true then _ else _) _ _ s;rw[if_neg (show ¬ ((Value.ref t == Value.none)=true) from gf)];show wpAny _ _ (field (.ref it) 1 >>= _) _ _ s;refine wpAny_bind (wpAny_field ho hd (x:=.int i 0) rfl ?_);show wpAny _ _ (seqItems? (.ref t) >>= _) _ _ s;refine wpAny_bind (wpAny_seqItems hol Rh ?_);simp only[Int.toNat_natCast,hx];refine wpAny_bind (wpAny_setField ho hd (by simp) (wpAny_pure ⟨x,rfl,wpAny_pure (hQ _ ?_ (Heap.SameBut.update ..))⟩));exists _,Heap.get?_update_self _ ho (Obj.isFreed_of_fields (Obj.data_mapFields hd _)),(Obj.cls_mapFields ..).trans hc;rw[Obj.data_mapFields hd];simp[rawInt]
theorem Lk{it t:Addr}{i:Nat}{items:Array Value}{Q:Value->Shared->Prop}(hh:A.handled=none)(rE:s.heap.IsTupleIter it t i)(ht:s.heap.IsTuple t items)(hx:items[i]?=none)
  (hE:∀ h' e,Heap.ExtBut it s.heap h'->(∃ o,h'.get? e=some o/\o.cls=.type "StopIteration")->E (.ref e) { s with heap:=h' }):wpAny (model prog w) A (Builtin.SmallTypes.nextOf (.ref it)) Q E s:=by
 obtain⟨o,ho,hc,hd⟩:=id rE;obtain⟨ol,hol,_,nl,Rh⟩:=ht;unfold Builtin.SmallTypes.nextOf;refine wpAny_bind (wpAny_callSpecial?_slot (name:=Str.ofString "__next__") rE.typeIs F.slot_tuple_iterator_next (wpAny_call_entry F.slot_tuple_iterator_next rE.typeIs F.entry_tuple_iterator_next ?_ (F.args_tuple_iterator_next_1 _)));show wpAny _ _ (field (.ref it) 0 >>= _) _ _ s;refine wpAny_bind (wpAny_field ho hd (x:=.ref t) rfl ?_);show wpAny _ _ (if (Value.ref t == Value.none)=true then _ else _) _ _ s;rw[if_neg (show ¬ ((Value.ref t == Value.none)=true) from gf)];show wpAny _ _ (field (.ref it) 1 >>= _) _ _ s;refine wpAny_bind (wpAny_field ho hd (x:=.int i 0) rfl ?_);show wpAny _ _ (seqItems? (.ref t) >>= _) _ _ s;refine wpAny_bind (wpAny_seqItems hol Rh ?_);simp only[Int.toNat_natCast,hx];refine wpAny_bind (wpAny_rule (wpAny_bind (wpAny_setField ho hd (by simp) ?_)));show wpAny _ _ (newExc (.type "StopIteration") [] >>= _) _ _ _;refine wpAny_bind ?_;simp only[newExc,newTuple];refine wpAny_bind (wpAny_newObj_type ?_ (by size_fits))
 refine wpAny_bind (m:=firstArgMember _ _) (wpAny_of_eq (a:=Value.none) (by first|rfl|(simp only[firstArgMember];rfl)) ?_)
 refine wpAny_newObj_type ?_ (by size_fits);simp only[raiseNew];refine wpAny_bind (wpAny_handled ?_)
 first|rw[show A.in1.handled=none from hh]|rw[hh]
 refine wpAny_bind (wpAny_pure (wpAny_throw ?_));exact hE _ _ (((Heap.SameBut.update ..).extBut.push _).push _) ⟨_,Heap.get?_push_size _ rfl,rfl⟩
theorem uI{k:Bool}{it t:Addr}{i:Nat}{items:Array Value}{x:Value}{Q:Value->Shared->Prop}(rE:GW k s.heap it t i)(ht:AO k s.heap t items)(hx:items[i]?=some x)
  (hQ:∀ h',GW k h' it t (i+1)->Heap.SameBut it s.heap h'->Q x { s with heap:=h' }):wpAny (model prog w) A (Builtin.SmallTypes.nextOf (.ref it)) Q E s:=by
 cases k
 ·exact HH rE ht hx hQ
 ·exact wpAny_nextOf_list_item rE ht hx hQ
theorem BO{k:Bool}{it t:Addr}{i:Nat}{items:Array Value}{Q:Value->Shared->Prop}(hh:A.handled=none)(rE:GW k s.heap it t i)(ht:AO k s.heap t items)(hx:items[i]?=none)
  (hE:∀ h' e,Heap.ExtBut it s.heap h'->(∃ o,h'.get? e=some o/\o.cls=.type "StopIteration")->E (.ref e) { s with heap:=h' }):wpAny (model prog w) A (Builtin.SmallTypes.nextOf (.ref it)) Q E s:=by
 cases k
 ·exact Lk hh rE ht hx hE
 ·exact wpAny_nextOf_list_end hh rE ht hx hE
abbrev BP(k:Bool)(l:Addr):Obj:={ cls:=.type (if k then "list_iterator" else "tuple_iterator"),data:=.fields #[.ref l,.int 0 0] }
theorem Uc{k:Bool}{l:Addr}{xs:Array Value}{Q:Value->Shared->Prop}(h:AO k s.heap l xs)(hQ:Q (.ref s.heap.objs.size) { s with heap:=s.heap.push (BP k l) }):wpAny (model prog w) A (pyIter (.ref l)) Q E s:=by
 cases k
 ·exact wpAny_pyIter_tuple h hQ
 ·exact wpAny_pyIter_list h hQ
structure BQ(k:Bool)(h:Heap)(z TI TO i1 i2 l1 l2:Addr)(n:Nat):Prop where
 z:IsZip h z TI TO .none
 ti:IsPair h TI (.ref i1) (.ref i2)
 to:∃ a b,IsPair h TO a b
 i1:GW k h i1 l1 n
 i2:GW k h i2 l2 n
theorem Ll{k:Bool}{z TI TO i1 i2 l1 l2:Addr}{n:Nat}{xs ys:Array Value}{x y:Value}{Q:Value->Shared->Prop}(D:ZipApart z TI TO i1 i2 l1 l2)(st:BQ k s.heap z TI TO i1 i2 l1 l2 n)
  (HK:AO k s.heap l1 xs) (xW:AO k s.heap l2 ys) (hx:xs[n]?=some x) (hy:ys[n]?=some y)
  (hQ:∀ h',IsZip h' z TI TO (rawInt s.heap.objs.size)->IsPair h' TO x y->GW k h' i1 l1 (n+1)->GW k h' i2 l2 (n+1)->IsPair h' s.heap.objs.size x y->
   (∀ c o,c≠z->c≠TO->c≠i1->c≠i2->s.heap.get? c=some o->h'.get? c=some o)->Q (.ref s.heap.objs.size) { s with heap:=h' }) :
  wpAny (model prog w) A (Builtin.«zip.__next__» ⟨[.ref z],[]⟩) (λjN s'=>∃ v,jN=.done (.ret v)/\Q v s') E s:=by
 obtain⟨hz,hTI,⟨a,b,hTO⟩,h1,h2⟩:=st;show wpAny _ _ (field (.ref z) 2 >>= _) _ _ _;refine wpAny_bind (wpAny_field hz rfl (x:=.bool false) rfl ?_);show wpAny _ _ (field (.ref z) 3 >>= _) _ _ _;refine wpAny_bind (wpAny_field hz rfl (x:=.ref TI) rfl (wpAny_bind (wpAny_seqItems hTI rfl ?_)));show wpAny _ _ (Builtin.SmallTypes.ownedTupleIsFree (.ref z) >>= _) _ _ _;refine wpAny_bind ?_;unfold Builtin.SmallTypes.ownedTupleIsFree;refine wpAny_bind (wpAny_field hz rfl (x:=.none) rfl (wpAny_pure ?_));simp only[if_true];refine wpAny_bind (wpAny_rule (wpAny_bind (wpAny_field hz rfl (x:=.ref TO) rfl (wpAny_bind (wpAny_setField_rec hz (by simp) λg1 z1 c1=>?_)))))
 replace z1:IsZip g1 z TI TO .ellipsis:=z1
 refine wpAny_bind ?_;simp only[List.zipIdx_cons,List.zipIdx_nil,List.forIn_cons,List.forIn_nil];refine wpAny_bind (wpAny_bind (wpAny_onRaise ?_));show wpAny _ _ (Builtin.SmallTypes.nextOf (.ref i1) >>= _) _ _ _;refine wpAny_bind (uI (h1.at λo e=>c1.extBut _ _ D.i1z e) (HK.at λo e=>c1.extBut _ _ D.l1z e) hx λg2 Ud c2=>wpAny_pure ?_);have o2:IsPair g2 TO a b:=c2.extBut _ _ D.TOi1 (c1.extBut _ _ D.TOz hTO);refine wpAny_bind (wpAny_seqItems o2 rfl (wpAny_bind (wpAny_updateSeq_pair o2 λg3 o3 c3=>?_)))
 replace o3:IsPair g3 TO x b:=o3
 refine wpAny_bind (wpAny_letGo (wpAny_pure (wpAny_bind (wpAny_bind (wpAny_onRaise ?_)))));show wpAny _ _ (Builtin.SmallTypes.nextOf (.ref i2) >>= _) _ _ _;refine wpAny_bind (uI (((h2.at λo e=>c1.extBut _ _ D.i2z e).at λo e=>c2.extBut _ _ D.i12.symm e).at λo e=>c3.extBut _ _ D.TOi2.symm e) (((xW.at λo e=>c1.extBut _ _ D.l2z e).at λo e=>c2.extBut _ _ D.l2i1 e).at λo e=>c3.extBut _ _ D.l2TO e) hy λg4 h24 c4=>wpAny_pure ?_);have o4:IsPair g4 TO x b:=c4.extBut _ _ D.TOi2 o3;refine wpAny_bind (wpAny_seqItems o4 rfl (wpAny_bind (wpAny_updateSeq_pair o4 λg5 o5 c5=>?_)))
 replace o5:IsPair g5 TO x y:=o5
 refine wpAny_bind (wpAny_letGo (wpAny_pure (wpAny_pure (wpAny_bind (wpAny_seqItems o5 rfl (wpAny_bind (wpAny_newTuple ?_)))))));have sz:g5.objs.size=s.heap.objs.size:=by rw[c5.1,c4.1,c3.1,c2.1,c1.1]
 have z5:IsZip g5 z TI TO .ellipsis:=c5.extBut _ _ D.TOz.symm (c4.extBut _ _ D.i2z.symm (c3.extBut _ _ D.TOz.symm (c2.extBut _ _ D.i1z.symm z1)));have k5:∀ c o,c≠z->c≠TO->c≠i1->c≠i2->s.heap.get? c=some o->g5.get? c=some o:=λc o n1 n2 n3 n4 e=>c5.extBut _ _ n2 (c4.extBut _ _ n4 (c3.extBut _ _ n2 (c2.extBut _ _ n3 (c1.extBut _ _ n1 e))));have h15:GW k g5 i1 l1 (n+1):=((Ud.at λo e=>c3.extBut _ _ D.TOi1.symm e).at λo e=>c4.extBut _ _ D.i12 e).at λo e=>c5.extBut _ _ D.TOi1.symm e;have h25:GW k g5 i2 l2 (n+1):=h24.at λo e=>c5.extBut _ _ D.TOi2.symm e;have zlt:z<g5.objs.size:=Heap.lt_size z5;show wpAny _ _ (Builtin.SmallTypes.ownedTupleHandOut (.ref z) (.ref g5.objs.size) >>= _) _ _ _;refine wpAny_bind ?_;unfold Builtin.SmallTypes.ownedTupleHandOut;have z6:IsZip (g5.push { cls:=.type "tuple",data:=.seq #[x,y] }) z TI TO .ellipsis:=Heap.get?_push_of_some _ z5;refine wpAny_bind (wpAny_setField_rec z6 (by simp) λg7 z7 c7=>?_)
 replace z7:IsZip g7 z TI TO (rawInt g5.objs.size):=z7
 refine wpAny_setField_rec z7 (by simp) λg8 z8 c8=>?_
 replace z8:IsZip g8 z TI TO (rawInt g5.objs.size):=z8
 have up:∀ c o,c≠z->g5.get? c=some o->g8.get? c=some o:=λc o n1 e=>c8.extBut _ _ n1 (c7.extBut _ _ n1 (Heap.get?_push_of_some _ e));have t8:IsPair g8 g5.objs.size x y:=c8.extBut _ _ (Nat.ne_of_gt zlt) (c7.extBut _ _ (Nat.ne_of_gt zlt) (Heap.get?_push_size _ rfl));rw[sz]at z8 t8;refine wpAny_pure ⟨Y,?_⟩;show Q (.ref g5.objs.size) _;rw[sz];exact hQ g8 z8 (up _ _ D.TOz o5) (h15.at λo e=>up _ o D.i1z e) (h25.at λo e=>up _ o D.i2z e) t8 λc o n1 n2 n3 n4 e=>up c o n1 (k5 c o n1 n2 n3 n4 e)
theorem N6{k:Bool}{z TI TO i1 i2 l1 l2:Addr}{n:Nat}{xs ys:Array Value}{Q:Fin->Shared->Prop}(hh:A.handled=none)(D:ZipApart z TI TO i1 i2 l1 l2)(st:BQ k s.heap z TI TO i1 i2 l1 l2 n)
  (HK:AO k s.heap l1 xs) (xW:AO k s.heap l2 ys) (VN:xs[n]?=none\/ys[n]?=none)
  (hE:∀ h' e,(∀ c o,c≠z->c≠TO->c≠i1->c≠i2->s.heap.get? c=some o->h'.get? c=some o)->(∃ o,h'.get? e=some o/\o.cls=.type "StopIteration")->E (.ref e) { s with heap:=h' }) :
  wpAny (model prog w) A (Builtin.«zip.__next__» ⟨[.ref z],[]⟩) Q E s:=by
 obtain⟨hz,hTI,⟨a,b,hTO⟩,h1,h2⟩:=st;show wpAny _ _ (field (.ref z) 2 >>= _) _ _ _;refine wpAny_bind (wpAny_field hz rfl (x:=.bool false) rfl ?_);show wpAny _ _ (field (.ref z) 3 >>= _) _ _ _;refine wpAny_bind (wpAny_field hz rfl (x:=.ref TI) rfl (wpAny_bind (wpAny_seqItems hTI rfl ?_)));show wpAny _ _ (Builtin.SmallTypes.ownedTupleIsFree (.ref z) >>= _) _ _ _;refine wpAny_bind ?_;unfold Builtin.SmallTypes.ownedTupleIsFree;refine wpAny_bind (wpAny_field hz rfl (x:=.none) rfl (wpAny_pure ?_));simp only[if_true];refine wpAny_bind (wpAny_rule (wpAny_bind (wpAny_field hz rfl (x:=.ref TO) rfl (wpAny_bind (wpAny_setField_rec hz (by simp) λg1 z1 c1=>?_)))))
 replace z1:IsZip g1 z TI TO .ellipsis:=z1
 refine wpAny_bind ?_;simp only[List.zipIdx_cons,List.zipIdx_nil,List.forIn_cons,List.forIn_nil];refine wpAny_bind (wpAny_bind (wpAny_onRaise ?_));show wpAny _ _ (Builtin.SmallTypes.nextOf (.ref i1) >>= _) _ _ _
 cases hx:xs[n]? with
 | none =>
  refine wpAny_bind (BO hh (h1.at λo e=>c1.extBut _ _ D.i1z e) (HK.at λo e=>c1.extBut _ _ D.l1z e) hx λg2 e c2 he=>?_);obtain⟨oe,VO,hce⟩:=he;have z2:IsZip g2 z TI TO .ellipsis:=c2 _ _ D.i1z.symm z1;have hez:e≠z:=λx=>by subst x;rw[z2]at VO;cases VO;simp at hce
  exact wpAny_setField_rec z2 (by simp) λg3 _ c3=>hE g3 e (λc o n1 _ n3 _ x=>c3.extBut _ _ n1 (c2 _ _ n3 (c1.extBut _ _ n1 x))) ⟨oe,c3.extBut _ _ hez VO,hce⟩
 | some x =>
  have hy:ys[n]?=none:=by rcases VN with h|h;(rw[hx]at h;cases h);exact h
  refine wpAny_bind (uI (h1.at λo e=>c1.extBut _ _ D.i1z e) (HK.at λo e=>c1.extBut _ _ D.l1z e) hx λg2 Ud c2=>wpAny_pure ?_);have o2:IsPair g2 TO a b:=c2.extBut _ _ D.TOi1 (c1.extBut _ _ D.TOz hTO);refine wpAny_bind (wpAny_seqItems o2 rfl (wpAny_bind (wpAny_updateSeq_pair o2 λg3 o3 c3=>?_)));refine wpAny_bind (wpAny_letGo (wpAny_pure (wpAny_bind (wpAny_bind (wpAny_onRaise ?_)))));show wpAny _ _ (Builtin.SmallTypes.nextOf (.ref i2) >>= _) _ _ _;refine wpAny_bind (BO hh (((h2.at λo e=>c1.extBut _ _ D.i2z e).at λo e=>c2.extBut _ _ D.i12.symm e).at λo e=>c3.extBut _ _ D.TOi2.symm e) (((xW.at λo e=>c1.extBut _ _ D.l2z e).at λo e=>c2.extBut _ _ D.l2i1 e).at λo e=>c3.extBut _ _ D.l2TO e) hy λg4 e c4 he=>?_);obtain⟨oe,VO,hce⟩:=he;have z4:IsZip g4 z TI TO .ellipsis:=c4 _ _ D.i2z.symm (c3.extBut _ _ D.TOz.symm (c2.extBut _ _ D.i1z.symm z1));have hez:e≠z:=λx=>by subst x;rw[z4]at VO;cases VO;simp at hce
  exact wpAny_setField_rec z4 (by simp) λg5 _ c5=>hE g5 e (λc o n1 n2 n3 n4 x=>c5.extBut _ _ n1 (c4 _ _ n4 (c3.extBut _ _ n2 (c2.extBut _ _ n3 (c1.extBut _ _ n1 x))))) ⟨oe,c5.extBut _ _ hez VO,hce⟩
theorem HL{k:Bool}{z TI TO i1 i2 l1 l2:Addr}{n:Nat}{xs ys:Array Value}{x y:Value}{Q:Option Value->Shared->Prop}(D:ZipApart z TI TO i1 i2 l1 l2)(st:BQ k s.heap z TI TO i1 i2 l1 l2 n)
  (HK:AO k s.heap l1 xs) (xW:AO k s.heap l2 ys) (hx:xs[n]?=some x) (hy:ys[n]?=some y)
  (hQ:∀ h',IsZip h' z TI TO (rawInt s.heap.objs.size)->IsPair h' TO x y->GW k h' i1 l1 (n+1)->GW k h' i2 l2 (n+1)->IsPair h' s.heap.objs.size x y->
   (∀ c o,c≠z->c≠TO->c≠i1->c≠i2->s.heap.get? c=some o->h'.get? c=some o)->Q (some (.ref s.heap.objs.size)) { s with heap:=h' }):wpAny (model prog w) A (pyNext (.ref z)) Q E s:=by
 have hT:s.TypeIs (.ref z) "zip":=⟨_,st.z,rfl⟩;unfold pyNext;exact wpAny_bind (wpAny_attempt (wpAny_callSpecial?_slot (name:=Str.ofString "__next__") hT F.slot_zip_next (wpAny_call_entry F.slot_zip_next hT F.entry_zip_next (Ll D st HK xW hx hy λh' a1 a2 a3 a4 a5 a7=>wpAny_pure (hQ h' a1 a2 a3 a4 a5 a7)) (F.args_zip_next_1 _))))
theorem Lm{k:Bool}{z TI TO i1 i2 l1 l2:Addr}{n:Nat}{xs ys:Array Value}{Q:Option Value->Shared->Prop}(hh:A.handled=none)(D:ZipApart z TI TO i1 i2 l1 l2)(st:BQ k s.heap z TI TO i1 i2 l1 l2 n)
  (HK:AO k s.heap l1 xs) (xW:AO k s.heap l2 ys) (VN:xs[n]?=none\/ys[n]?=none)
  (hQ:∀ h',(∀ c o,c≠z->c≠TO->c≠i1->c≠i2->s.heap.get? c=some o->h'.get? c=some o)->Q none { s with heap:=h' }):wpAny (model prog w) A (pyNext (.ref z)) Q E s:=by
 have hT:s.TypeIs (.ref z) "zip":=⟨_,st.z,rfl⟩;unfold pyNext;refine wpAny_bind (wpAny_attempt (wpAny_callSpecial?_slot (name:=Str.ofString "__next__") hT F.slot_zip_next (wpAny_call_entry F.slot_zip_next hT F.entry_zip_next (N6 hh D st HK xW VN λh' e hk he=>?_) (F.args_zip_next_1 _))));obtain⟨o,ho,hc⟩:=he;exact wpAny_bind (wpAny_isInstance (T:="StopIteration") (b:=true) ⟨o,ho,hc⟩ isSubtype_stop (wpAny_pure (hQ _ hk)))
end
abbrev zH1(k:Bool)(h:Heap)(l1:Addr):Heap:=h.push (BP k l1)
abbrev zH2(k:Bool)(h:Heap)(l1 l2:Addr):Heap:=(zH1 k h l1).push (BP k l2)
abbrev zH3(k:Bool)(h:Heap)(l1 l2:Addr):Heap:=(zH2 k h l1 l2).push { cls:=.type "tuple",data:=.seq #[.ref h.objs.size,.ref (zH1 k h l1).objs.size] }
abbrev zH4(k:Bool)(h:Heap)(l1 l2:Addr):Heap:=(zH3 k h l1 l2).push { cls:=.type "tuple",data:=.seq #[.none,.none] }
abbrev XU(k:Bool)(h:Heap)(l1 l2:Addr):Heap:=(zH4 k h l1 l2).push { cls:=.type "zip",data:=.fields #[.none,.bool false,.bool false,.ref (zH2 k h l1 l2).objs.size,.ref (zH3 k h l1 l2).objs.size] }
theorem HM(k:Bool)(l1 l2:Addr)(xs ys:Array Value) :
  Meets (Builtin.«zip.__new__» ⟨[.type "zip",.ref l1,.ref l2],[]⟩) (λ_ R s=>AO k s.heap l1 xs/\AO k s.heap l2 ys/\R (.ok (.ret (.ref (zH4 k s.heap l1 l2).objs.size))) { s with heap:=XU k s.heap l1 l2 }) :=
 .of_wp λprog w A R s h=>by
  obtain⟨hp,g,d,tk,os⟩:=s;obtain⟨HK,xW,h⟩:=h;have hsub:=sub_zip;have hL1:AO k (Shared.heap ⟨hp,g,d,tk,os⟩) l1 xs:=HK;have hL2:AO k (Shared.heap ⟨hp.push (BP k l1),g,d,tk,os⟩) l2 ys:=xW.at λo e=>Heap.get?_push_of_some _ e
  wp_walk using Uc hL1,Uc hL2
  exact⟨Y,h⟩
section
variable {prog:Program} {w:World} {A:Around} {E:Value->Shared->Prop} {s:Shared}
theorem Ln{k:Bool}{l1 l2:Addr}{xs ys:Array Value}{Q:Value->Shared->Prop}(HK:AO k s.heap l1 xs)(xW:AO k s.heap l2 ys)
  (h:∀ h',BQ k h' (s.heap.objs.size+4) (s.heap.objs.size+2) (s.heap.objs.size+3) s.heap.objs.size (s.heap.objs.size+1) l1 l2 0->(∀ c o,s.heap.get? c=some o->h'.get? c=some o)->Q (.ref (s.heap.objs.size+4)) { s with heap:=h' }) :
  wpAny (model prog w) A (call (.type "zip") [.ref l1,.ref l2]) Q E s:=by
 refine callType_new F.called_zip (by decide) (F.typeCall_zip_2 _ _) (F.newCall_zip_2 _ _) (λobj=>F.args_object_init_3 obj _ _) F.entry_zip_new (HM k l1 l2 xs ys) ⟨HK,xW,?_⟩;have z1:(zH1 k s.heap l1).objs.size=s.heap.objs.size+1:=Heap.size_push ..;have z2:(zH2 k s.heap l1 l2).objs.size=s.heap.objs.size+2:=by rw[Heap.size_push,z1]
 have z3:(zH3 k s.heap l1 l2).objs.size=s.heap.objs.size+3:=by rw[Heap.size_push,z2]
 have z4:(zH4 k s.heap l1 l2).objs.size=s.heap.objs.size+4:=by rw[Heap.size_push,z3]
 have g5:(XU k s.heap l1 l2).get? (zH4 k s.heap l1 l2).objs.size=some _:=Heap.get?_push_size _ rfl;have g4:(XU k s.heap l1 l2).get? (zH3 k s.heap l1 l2).objs.size=some _:=Heap.get?_push_of_some _ (Heap.get?_push_size _ rfl);have g3:(XU k s.heap l1 l2).get? (zH2 k s.heap l1 l2).objs.size=some _:=Heap.get?_push_of_some _ (Heap.get?_push_of_some _ (Heap.get?_push_size _ rfl));have g2:(XU k s.heap l1 l2).get? (zH1 k s.heap l1).objs.size=some (BP k l2):=Heap.get?_push_of_some _ (Heap.get?_push_of_some _ (Heap.get?_push_of_some _ (Heap.get?_push_size _ rfl)));have g1:(XU k s.heap l1 l2).get? s.heap.objs.size=some (BP k l1):=Heap.get?_push_of_some _ (Heap.get?_push_of_some _ (Heap.get?_push_of_some _ (Heap.get?_push_of_some _ (Heap.get?_push_size _ rfl))));show _/\_;rw[z2,z3,z4]at g5;rw[z1,z2]at g3;rw[z3]at g4;rw[z1]at g2;rw[z4];refine⟨⟨_,g5,rfl⟩,h _ ⟨g5,g3,⟨P,g4⟩,?_,?_⟩ λc o x=>Heap.get?_push_of_some _ (Heap.get?_push_of_some _ (Heap.get?_push_of_some _ (Heap.get?_push_of_some _ (Heap.get?_push_of_some _ x))))⟩
 ·cases k
  ·exact⟨_,g1,V⟩
  ·exact⟨_,g1,V⟩
 ·cases k
  ·exact⟨_,g2,V⟩
  ·exact⟨_,g2,V⟩
end
def J4(K:Frag)(k:Bool)(H:Hp)(a:Addr)(xs:List V):Prop:=match k with
 | true=>bI K H a xs
 | false=>cY K H a xs
theorem wV{X:Cx}{σ:L2.St}{H:Hp}{s:Shared}{k:Bool}{a:Addr}{xs:List V}(I:Inv X ao σ H s)(h:J4 X.K k H a xs):∃ aL:List Value,cA xs aL/\AO k s.heap a aL.toArray/\xs.length<=sizeLine:=by
 cases k
 ·obtain⟨aL,r,p,z⟩:=I.tuple h;exact⟨aL,r,p,z⟩
 ·obtain⟨aL,r,p,z⟩:=I.list h;exact⟨aL,r,p.isList,z⟩
theorem J5{X:Cx}{σ:L2.St}{H:Hp}{s:Shared}{k:Bool}{a:Addr}{xs ys:List V}(I:Inv X ao σ H s)(h:J4 X.K k H a xs)(h':J4 X.K k H a ys):xs=ys:=by
 cases k
 ·exact I.BC h h'
 ·exact I.EG h h'
theorem N7{k:Bool}{h:Heap}{a:Addr}{xs:Array Value}(x:AO k h a xs):a<h.objs.size:=by
 cases k
 ·obtain⟨o,ho,_⟩:=x;exact Heap.lt_size ho
 ·obtain⟨o,ho,_⟩:=x;exact Heap.lt_size ho
def Zc(K:Frag)(k:Bool)(a1 a2:Addr):It :=
 ⟨λi H=>∃ xs ys x y,J4 K k H a1 xs/\J4 K k H a2 ys/\xs[i]?=some x/\ys[i]?=some y,λi H v H'=>∃ p x y,H p=none/\v=.ref p/\H'=aM H p (.tup [x,y])/\(∀ xs,J4 K k H a1 xs->xs[i]?=some x)/\∀ ys,J4 K k H a2 ys->ys[i]?=some y,λi H=>∃ xs ys,J4 K k H a1 xs/\J4 K k H a2 ys/\(xs.length<=i\/ys.length<=i)⟩
theorem N8{P:Program}{w:World}{K:Frag}{x1:Nat}{k:Bool}{z TI TO i1 i2 l1 l2:Addr}(D:ZipApart z TI TO i1 i2 l1 l2) :
  KU P w K (.Tuple VP x1 La) (Zc K k l1 l2) [z,TI,TO,i1,i2] z (λi h=>BQ k h z TI TO i1 i2 l1 l2 i) where
 mem:=by simp
 obj:=λi h st b hb=>by
  obtain⟨hz,hTI,⟨a,c,hTO⟩,h1,h2⟩:=st;simp only[List.mem_cons,List.not_mem_nil,or_false]at hb;rcases hb with rfl|rfl|rfl|rfl|rfl
  ·exact⟨_,hz,λv e=>by cases e⟩
  ·exact⟨_,hTI,λv e=>by cases e⟩
  ·exact⟨_,hTO,λv e=>by cases e⟩
  ·exact h1.obj
  ·exact h2.obj
 keep:=λi h h' st kk=>by
  obtain⟨hz,hTI,⟨a,c,hTO⟩,h1,h2⟩:=st;exact⟨kk z (by simp) _ hz,kk TI (by simp) _ hTI,⟨a,c,kk TO (by simp) _ hTO⟩,h1.at λo e=>kk i1 (by simp) o e,h2.at λo e=>kk i2 (by simp) o e⟩
 item:=by
  intro X hP hw hK hc i ao s σ H E I hf st hg;subst hP hw hK;obtain⟨xs,ys,x,y,q1,q2,e1,e2⟩:=hg;obtain⟨us,r1,p1,_⟩:=wV I q1;obtain⟨vs,r2,p2,_⟩:=wV I q2;obtain⟨u,eu,ru⟩:=r1.get e1;obtain⟨v,ev,rv⟩:=r2.get e2;refine HL (x:=u) (y:=v) D st p1 p2 (by simpa using eu) (by simpa using ev) λh' g1 g2 g3 g4 g5 g7=>?_;refine⟨Y,wpAny_letOwnedTupleGo_zip g1 λh2 hz2 c2=>?_⟩;have ne:∀ {b o},s.heap.get? b=some o->s.heap.objs.size≠b:=λe=>Nat.ne_of_gt (Heap.lt_size e)
  have k2:∀ b o,b∉[z,TI,TO,i1,i2]->s.heap.get? b=some o->h2.get? b=some o:=λb o hb e=>by
   simp only[List.mem_cons,List.not_mem_nil,or_false,not_or]at hb;exact c2.extBut _ _ hb.1 (g7 b o hb.1 hb.2.2.1 hb.2.2.2.1 hb.2.2.2.2 e)
  have I2:Inv X ao σ (aM H s.heap.objs.size (.tup [x,y])) { s with heap:=h2,toks:=s.toks } := Zb I k2 hf (fH _) (by show 2<=sizeLine;decide) (.cons ru (.cons rv .nil)) ⟨_,c2.extBut _ _ (ne st.z) g5,rfl,Y⟩;refine⟨.ref s.heap.objs.size,_,I2,rfl,⟨_,x,y,I.hok.fresh (fH _),V,λZd q=>?_,λys' q=>?_⟩,?_,λb hb=>?_⟩
  ·rw[J5 I q q1];exact e1
  ·rw[J5 I q q2];exact e2
  ·exact⟨hz2,c2.extBut _ _ D.TIz (g7 _ _ D.TIz D.TITO D.TIi1 D.TIi2 st.ti),⟨u,v,c2.extBut _ _ D.TOz g2⟩,g3.at λo e=>c2.extBut _ _ D.i1z e,g4.at λo e=>c2.extBut _ _ D.i2z e⟩
  ·have tN:∃ o,s.heap.get? b=some o:=by
    obtain⟨hz,hTI,⟨a,c,hTO⟩,h1,h2⟩:=st;simp only[List.mem_cons,List.not_mem_nil,or_false]at hb;rcases hb with rfl|rfl|rfl|rfl|rfl
    ·exact⟨_,hz⟩
    ·exact⟨_,hTI⟩
    ·exact⟨_,hTO⟩
    ·exact h1.obj.imp λ_ e=>e.1
    ·exact h2.obj.imp λ_ e=>e.1
   obtain⟨o,e⟩:=tN;rw[aJ (ne e).symm];exact (hf b hb).1
 done:=by
  intro X hP hw hK hc i ao s σ H E I hf st hg;subst hP hw hK;obtain⟨xs,ys,q1,q2,e⟩:=hg;obtain⟨us,r1,p1,_⟩:=wV I q1;obtain⟨vs,r2,p2,_⟩:=wV I q2;have l1:=r1.length;have l2:=r2.length;refine Lm (I.ok.hd hc) D st p1 p2 (e.imp (λe=>by simp;lia) (λe=>by simp;lia)) λh' kk=>⟨rfl,Rg (t':=s.toks) (ch:=[z,TI,TO,i1,i2]) I (λb o hb e=>?_) hf⟩;simp only[List.mem_cons,List.not_mem_nil,or_false,not_or]at hb;exact kk b o hb.1 hb.2.2.1 hb.2.2.2.1 hb.2.2.2.2 e
 self:=λ_ _ _ _ _ st h=>wpAny_pyIter_zip st.z h
def adp(K:Frag)(ta:TA):TI:=fun σ H R=>ta σ H λvs H1=>∃ k a1 a2 xs ys,vs=[.ref a1,.ref a2]/\J4 K k H1 a1 xs/\J4 K k H1 a2 ys/\R (Zc K k a1 a2) H1
theorem VQ{X:Cx}{x1:Nat}{a b:Expr}{ta:TA}{p:Pos}(hg:Gl X "zip")(hm:X.mg "zip"=none)(ha:PA X [a,b] ta)
  (hs:starEach [a,b] X.env=[(false,eval a X.env),(false,eval b X.env)]:=by rfl) (K0:starEach [b] X.env=[(false,eval b X.env)]:=by rfl):PI X (.Tuple VP x1 La) (.Call (.Name "zip" p) [a,b] [] pos) (adp X.K ta):=by
 intro ao s σ H R I h;refine Call_ (zf I hg hm boot_zip (PyProof.Rows.callWith_type1 (c9 (ha pos ao s σ H _ I h) λus s1 ⟨vs,H1,I1,r1,q1⟩=>?_) (by rw[hs,K0]) (by rw[K0];rfl)));obtain⟨k,a1,a2,xs,ys,e,q1,q2,q⟩:=q1;subst e;obtain⟨u1,u2,rfl,e1,e2⟩:=r1.two;cases (show u1=Value.ref a1 from e1);cases (show u2=Value.ref a2 from e2);obtain⟨us,rr1,p1,_⟩:=wV I1 q1;obtain⟨ws,rr2,p2,_⟩:=wV I1 q2;have b1:=N7 p1;have b2:=N7 p2;refine Ln p1 p2 λh' st kk=>wpAny_pyIter_zip st.z ?_;have I2:Inv X ao σ H1 { s1 with heap:=h',toks:=s1.toks }:=I1.kept kk;refine⟨K,_,H1,rfl,I2,N8 (zipApart_new b1 b2),st,λb hb=>?_,q⟩
 have hb':s1.heap.objs.size<=b:=by
  simp only[List.mem_cons,List.not_mem_nil,or_false]at hb;rcases hb with rfl|rfl|rfl|rfl|rfl
  ·exact Nat.le_add_right _ _
  ·exact Nat.le_add_right _ _
  ·exact Nat.le_add_right _ _
  ·exact fH _
  ·exact Nat.le_add_right _ _
 exact I1.Nm hb' (I1.hok.fresh hb')
theorem Ri{K:Frag}{k:Bool}{a1:Addr}{xs ys:List V}{g:TG}{tb:TS}{D:Ends}{σ:L2.St}{H:Hp}(Pv:Nat->L2.St->Hp->Prop)(hn:xs.length=ys.length)(h0:Pv 0 σ H)
  (hl:∀ i σ H,i<=xs.length->Pv i σ H->J4 K k H a1 xs/\J4 K k H a2 ys)
  (hs:∀ i x y p σ H,xs[i]?=some x->ys[i]?=some y->H p=none->Pv i σ H->g (.ref p) σ (aM H p (.tup [x,y])) fun σ2 H2=>tb { D with nx:=Pv (i+1),ct:=Pv (i+1),bk:=D.nx } σ2 H2) (hd:∀ σ H,Pv xs.length σ H->D.nx σ H) :
  ∃ W:Nat->Nat->L2.St->Hp->Prop,(∃ m,W 0 m σ H)/\∀ i m σ H,W i m σ H->
   ((Zc K k a1 a2).stop i H/\D.nx σ H)\/((Zc K k a1 a2).go i H/\∃ N:L2.St->Hp->Prop,(∀ σ' H',N σ' H'->∃ m',m'<m/\W (i+1) m' σ' H')/\∀ x H',(Zc K k a1 a2).Qx i H x H'->g x σ H' fun σ2 H2=>tb { D with nx:=N,ct:=N,bk:=D.nx } σ2 H2):=by
 refine⟨λi m σ H=>m=xs.length-i/\i<=xs.length/\Pv i σ H,⟨xs.length,by simp,Nat.zero_le _,h0⟩,?_⟩;rintro i m σ H ⟨rfl,hi,p⟩;obtain⟨q1,q2⟩:=hl i σ H hi p;by_cases tN:i<xs.length
 ·have adq:i<ys.length:=by lia
  refine .inr ⟨⟨xs,ys,xs[i],ys[i],q1,q2,by simp[tN],by simp[adq]⟩,Pv (i+1),fun σ' H' p'=>⟨xs.length-(i+1),Q,rfl,tN,p'⟩,λx H' y=>?_⟩;obtain⟨a,x',y',hn',rfl,rfl,e1,e2⟩:=y;exact hs i x' y' a σ _ (e1 xs q1) (e2 ys q2) hn' p
 ·have e:i=xs.length:=by lia
  subst e;exact .inl ⟨⟨xs,ys,q1,q2,.inl (fH _)⟩,hd σ H p⟩
def BR(lo:Int)(n:Nat):List V:=(List.range n).map λi:Nat=>V.int (lo+i)
section
variable {X:Cx}
theorem ES:jV X (.type "range") (λxs H Q=>∃ i j:Int,xs=[.int i,.int j]/\∀ p,H p=none->Q (.ref p) (aM H p (.EA i j))):=by
 intro ao s σ H xs us Q I r h;obtain⟨i,j,rfl,q⟩:=h;obtain⟨u1,u2,rfl,⟨t,rfl⟩,⟨t',rfl⟩⟩:=r.two;refine call_range_2 ⟨.ref s.heap.objs.size,_,I.laid (o:=.EA i j) (λb o e=>Heap.get?_push_of_some _ e) (fH _) ⟨t,t',s.toks,Heap.get?_push_size _ rfl⟩,rfl,q _ (I.hok.fresh (fH _))⟩
theorem tT(hc:X.calm=true):jV X (.type "list") (λxs H Q=>∃ p i j,xs=[.ref p]/\H p=some (.EA i j)/\(-(2^62)<=i/\i<2^62/\-(2^62)<=j/\j<2^62)/\(j-i).toNat<=sizeLine/\
  ∀ l,H l=none->Q (.ref l) (aM H l (.lst (BR i (j-i).toNat)))):=by
 intro ao s σ H xs us Q I r h;obtain⟨p,i,j,rfl,hp,⟨b1,b2,b3,b4⟩,hz,q⟩:=h;obtain⟨u,rfl,rx⟩:=r.one;cases (show u=Value.ref p from rx);obtain⟨t,u,v,e⟩:=(show fR X.prog X.w H s.heap p (.EA i j) from I.hok p _ hp)
 have e2:Builtin.Range.rangeSize i j 1=(((j-i).toNat:Nat):Int):=by rw[rangeSize_one];split <;> lia
 have hz':(j-i).toNat<=2^24:=by have:=sizeLine_eq;lia
 refine call_list_range (I.ok.hd hc) e (small_one b1 b2 b3 b4) e2 hz' λh' tk qG c' hk hS cT=>?_;refine⟨.ref s.heap.objs.size,_,I.laid (o:=.lst (BR i (j-i).toNat)) (t':=tk) hk (fH _) ⟨?_,qG.toList,c',?_,by simpa using hS⟩,rfl,q _ (I.hok.fresh (fH _))⟩
 ·unfold BR;simpa using hz
 ·have hl:qG.toList.length=(j-i).toNat:=by simpa using cT.1
  have key:∀ (n:Nat) (us:List Value) (lo:Int),us.length=n->(∀ k v,us[k]?=some v->∃ t,v=Value.int (lo+(k:Nat)*1) t)->cA ((List.range n).map λi:Nat=>V.int (lo+i)) us:=by
   intro n
   induction n with
   | zero=>intro us lo hl _;cases us with
    | nil=>exact .nil
    | cons=>simp at hl
   | succ n ih =>
    intro us lo hl hv
    cases us with
    | nil=>simp at hl
    | cons u us =>
     rw[List.range_succ_eq_map,jv,List.map_map];refine .cons ?_ ?_
     ·obtain⟨t,e⟩:=hv 0 u rfl;exact⟨t,by rw[e];simp⟩
     ·have:=ih us (lo+1) (by simpa using hl) λk v e=>by
       obtain⟨t,e'⟩:=hv (k+1) v (by simpa using e);exists t;rw[e'];have:lo+((k+1:Nat):Int)*1=lo+1+(k:Int)*1:=by lia
       rw[this]
      have e3:((λi:Nat=>V.int (lo+i)) ∘ Nat.succ)=λi:Nat=>V.int (lo+1+i):=by
       funext i;simp only[Function.comp,Nat.succ_eq_add_one];have:lo+((i+1:Nat):Int)=lo+1+(i:Int):=by lia
       rw[this]
      rw[e3];exact this
  exact key _ _ i hl λk v e=>cT.2 k v (by simpa using e)
end
section
variable {X:Cx}
theorem N9{j:Int}(h0:0<j)(h1:j<10^70):j.natAbs.log2<9000:=by
 have h:j.natAbs<2^9000:=Nat.lt_trans (show j.natAbs<10^70 by lia) nofun;exact (Nat.log2_lt ∅).mpr h
theorem zB:uf X (binaryOp .FloorDiv) (rI (λ_ j=>0<j/\j<10^70) λi j=>.int (i / j)):=opI λi j _ _ _ _ _ hc q=>by
 have h1:(0:Int)<j:=hc.1;exact floordiv_int ∅ (by rw[Int.fdiv_eq_ediv_of_nonneg i ∅];exact q) (.inl (PyProof.noPylong_of_log2 (N9 hc.1 hc.2)))
theorem ET(hc:X.calm=true):jV X (.builtin "sum") (λxs H Q=>∃ (p:Addr) (ns:List Int),xs=[.ref p]/\bI X.K H p (ns.map V.int)/\Q (.int ns.sum) H):=by
 intro ao s σ H xs us Q I r h;obtain⟨p,ns,rfl,hq,q⟩:=h;obtain⟨u,rfl,rx⟩:=r.one;cases (show u=Value.ref p from rx);obtain⟨aL,rv,pl,hz⟩:=I.list hq;have hi:IntsAre aL ns:=intsAre_of rv;have NS:AllInts aL.toArray:=hi.allInts;obtain⟨zs,ez⟩:=NS.items;have hl:=pl.isList;have es:(numsOf aL.toArray.toList).sum=ns.sum:=by rw[show aL.toArray.toList=aL from rfl,hi.numsOf]
 rw[ez]at hl es;rw[nums_intItems]at es;refine PySem.sum_intListG (I.ok.hd hc) hl λh' tk t' hk=>⟨.int ns.sum,H,I.kept hk,⟨t',?_⟩,q⟩;rw[preSum_eq,uc (by simp),es]
end
end cX
namespace gx
abbrev Row:=List (Int × Int)
def iQ(t:Row)(s e:Int):Row :=
 match t.getLast? with
 | some p=>if p.2=s then t.dropLast++[(p.1,e)] else t++[(s,e)]
 | none=>t++[(s,e)]
def dI(t:Row)(p:Int × Int):Row:=if p.1=p.2 then t else iQ t p.1 p.2
def bZ(r:Row):Row:=r.foldl dI []
def run(s:Int):Nat->List Int
 | 0=>[]
 | n+1=>s::run (s+1) n
def fN(p:Int × Int):List Int:=run p.1 (p.2-p.1).toNat
def bu(r:Row):List Int:=r.flatMap fN
def cK(ns:List Int):Row:=ns.foldl (λt n=>iQ t n (n+1)) []
theorem gD(s:Int)(n:Nat):(run s n).length=n:=by
 induction n generalizing s with
 | zero=>rfl
 | succ n ih=>simp[run,ih]
theorem kF(s e:Int):iQ [] s e=[(s,e)]:=rfl
theorem kG(t:Row){q:Int × Int}{s:Int}{e:Int}(h:q.2=s):iQ (t++[q]) s e=t++[(q.1,e)]:=by
 simp[iQ,h]
theorem kH(t:Row){q:Int × Int}{s:Int}{e:Int}(h:¬ q.2=s):iQ (t++[q]) s e=t++[q]++[(s,e)]:=by
 simp[iQ,h]
theorem Lo(t:Row)(a s e:Int):iQ (t++[(a,s)]) s e=t++[(a,e)]:=by
 simp[iQ]
theorem zC(t:Row)(a s:Int)(n:Nat):(run s n).foldl (λt n=>iQ t n (n+1)) (t++[(a,s)])=t++[(a,s+n)]:=by
 induction n generalizing s with
 | zero=>simp[run]
 | succ n ih =>
  rw[run,kq,Lo,ih];have:s+1+(n:Int)=s+((n+1:Nat):Int):=by lia
  rw[this]
theorem Oa(t:Row)(p:Int × Int)(h:p.1<=p.2):dI t p=(fN p).foldl (λt n=>iQ t n (n+1)) t:=by
 obtain⟨s,e⟩:=p;simp only at h;unfold dI fN;by_cases he:s=e
 ·subst he;simp[run]
 ·obtain⟨n,hn⟩:∃ n:Nat,e=s+1+n:=⟨(e-s-1).toNat,Q⟩;subst hn;rw[if_neg he];have h2:((s,s+1+(n:Int)).2-(s,s+1+(n:Int)).1).toNat=n+1:=by simp only;lia
  rw[h2,run,kq];simp only;rcases nB t with rfl|⟨u,q,rfl⟩
  ·rw[kF,kF];exact (zC [] s (s+1) n).symm
  ·by_cases hq:q.2=s
   ·rw[kX,kG u hq,kG u hq,zC]
   ·rw[kX,kH u hq,kH u hq,zC]
theorem mW{α β γ:Type}(f:γ->β->γ)(g:α->List β):∀ (l:List α) (c:γ),(l.flatMap g).foldl f c=l.foldl (λc a=>(g a).foldl f c) c
 | [],_=>rfl
 | a::l,c=>by rw[je,List.foldl_append,kq,mW f g l]
theorem zD(r:Row)(h:∀ p∈r,p.1<=p.2):bZ r=cK (bu r):=by
 unfold bZ cK bu;rw[mW]
 have key:∀ (r:Row),(∀ p∈r,p.1<=p.2)->∀ t:Row,r.foldl dI t=r.foldl (λc a=>(fN a).foldl (λt n=>iQ t n (n+1)) c) t:=by
  intro r
  induction r with
  | nil=>intro _ t;rfl
  | cons p r ih =>
   intro h t;rw[kq,kq,Oa t p (h p (List.mem_cons_self ..))];exact ih (λq hq=>h q (mE _ hq)) _
 exact key r h []
theorem xY(t:Row)(s e:Int):(iQ t s e).length<=t.length+1:=by
 rcases nB t with rfl|⟨u,q,rfl⟩
 ·rw[kF];simp
 ·by_cases hq:q.2=s
  ·rw[kX,kG u hq];simp
  ·rw[kX,kH u hq];simp
theorem foldl_take_succ{α β:Type}(f:β->α->β)(l:List α)(b:β)(i:Nat)(x:α)(h:l[i]?=some x):(l.take (i+1)).foldl f b=f ((l.take i).foldl f b) x:=by
 rw[List.take_add_one,h,List.foldl_append];rfl
end gx
namespace gx
def ja(r:Row):Int:=(r.map λp=>p.2-p.1).sum
theorem Rj:ja []=0:=rfl
theorem EU(p:Int × Int)(r:Row):ja (p::r)=(p.2-p.1)+ja r:=by simp[ja]
theorem Ob(r:Row)(p:Int × Int):ja (r++[p])=ja r+(p.2-p.1):=by simp[ja]
theorem zE(r q:Row):ja (r++q)=ja r+ja q:=by simp[ja]
theorem take_snoc{α:Type}{l:List α}{i:Nat}{x:α}(h:l[i]?=some x):l.take (i+1)=l.take i++[x]:=by rw[List.take_add_one,h];rfl
end gx
namespace gx
theorem zF(s:Int)(n:Nat):run s (n+1)=run s n++[s+n]:=by
 induction n generalizing s with
 | zero=>simp[run]
 | succ n ih =>
  rw[run,ih,run];have:s+1+(n:Int)=s+((n+1:Nat):Int):=by lia
  rw[this];rfl
theorem BS{a n:Int}(h:a<=n):fN (a,n+1)=fN (a,n)++[n]:=by
 unfold fN;have e:((a,n+1).2-(a,n+1).1).toNat=((a,n).2-(a,n).1).toNat+1:=by simp only;lia
 rw[e,zF];have:a+((((a,n).2-(a,n).1).toNat:Nat):Int)=n:=by simp only;lia
 simp only at this ⊢;rw[this]
theorem EV(n:Int):fN (n,n+1)=[n]:=by
 have:=BS (a:=n) (n:=n) (Int.le_refl _);rw[this];have e:fN (n,n)=[]:=by unfold fN;simp[run]
 rw[e];rfl
theorem cU(r q:Row):bu (r++q)=bu r++bu q:=by unfold bu;rw[List.flatMap_append]
theorem eV(p:Int × Int):bu [p]=fN p:=by simp[bu]
theorem HN(t:Row)(n:Int)(h:∀ p∈t,p.1<=p.2):bu (iQ t n (n+1))=bu t++[n]:=by
 rcases nB t with rfl|⟨u,q,rfl⟩
 ·rw[kF,eV,EV];rfl
 ·rw[kX]at h ⊢;by_cases hq:q.2=n
  ·obtain⟨a,b⟩:=q;simp only at hq;subst hq;have hb:a<=b:=h (a,b) (by simp);rw[kG u rfl,cU,cU,eV,eV,BS hb,nC]
  ·rw[kH u hq,cU,eV,EV]
theorem J6(t:Row)(n:Int)(h:∀ p∈t,p.1<=p.2):∀ p∈iQ t n (n+1),p.1<=p.2:=by
 rcases nB t with rfl|⟨u,q,rfl⟩
 ·rw[kF];intro p hp;simp at hp;subst hp;show n<=n+1;lia
 ·rw[kX]at h ⊢;by_cases hq:q.2=n
  ·rw[kG u hq];intro p hp;rcases List.mem_append.mp hp with z|z
   ·exact h p (qE _ z)
   ·simp at z;subst z;have:=h q (by simp);show q.1<=n+1;lia
  ·rw[kH u hq];intro p hp;rcases List.mem_append.mp hp with z|z
   ·exact h p z
   ·simp at z;subst z;show n<=n+1;lia
theorem gA(ns:List Int):bu (cK ns)=ns:=by
 have key:∀ (ns:List Int) (t:Row),(∀ p∈t,p.1<=p.2)->bu (ns.foldl (λt n=>iQ t n (n+1)) t)=bu t++ns:=by
  intro ns
  induction ns with
  | nil=>intro t _;simp
  | cons n ns ih =>
   intro t h;rw[kq,ih _ (J6 t n h),HN t n h,nC];rfl
 have:=key ns [] (λp hp=>by cases hp);simpa [cK,bu] using this
theorem oU(ns:List Int):∀ p∈cK ns,p.1<=p.2:=by
 have key:∀ (ns:List Int) (t:Row),(∀ p∈t,p.1<=p.2)->∀ p∈ns.foldl (λt n=>iQ t n (n+1)) t,p.1<=p.2:=by
  intro ns
  induction ns with
  | nil=>intro t h;exact h
  | cons n ns ih=>intro t h;exact ih _ (J6 t n h)
 exact key ns [] (λp hp=>by cases hp)
end gx
namespace gx
theorem xZ(p:Int × Int)(h:p.1<=p.2):((fN p).length:Int)=p.2-p.1:=by
 unfold fN;rw[gD];lia
theorem sG:∀ (r:Row),(∀ p∈r,p.1<=p.2)->((bu r).length:Int)=ja r
 | [],_=>rfl
 | p::r,h=>by
  have ih:=sG r λq hq=>h q (mE _ hq);have hp:=xZ p (h p (List.mem_cons_self ..));have e:bu (p::r)=fN p++bu r:=rfl;rw[e,cP,EU];lia
end gx
namespace gx
open L2 cX
structure cj(K:Frag)(mg:Str->Option Value)(x:Str)(st:Stmt)(ps:List Str)(a:Addr)(d:FuncData):Prop where
 F:Q9 K x x st a d
 b:Binds K d ps []
 m:mg x=some (.ref a)
section
variable {X:Cx}
theorem aC{x:Str}{st:Stmt}{ps:List Str}{f:Addr}{j k:Nat}{sp:Sp}{e:Expr}{es:List Expr}{t:TA}{p pos:Pos}(d:cj X.K X.mg x st ps f fd)(G:bq X.prog X.w X.K X.mg X.zt cM k f fd ps sp)(hr:jg j X.A)
  (ha:PA X (e::es) t) (VR:k<=j:=by first|decide|lia) (hg:Gl X x:=by rfl) (Ld:(x == ("__debug__":Str))=false:=by decide) (he:starEach (e::es) X.env=(false,eval e X.env)::starEach es X.env:=by rfl)
  (Er:(backTo pos (starEach es X.env)).any (·.1)=false:=by rfl):PE X (.Call (.Name x p) (e::es) [] pos) (JN sp [] E0 t) :=
 JP G (hr.mono VR) hg d.m d.F.kp d.b .nil bN ha Ld he Er
theorem HP{st:Stmt}{t t':TS}(h:PS X st t)(hi:∀ D σ H,t' D σ H->t D σ H):PS X st t':=λao s σ H D I q=>h ao s σ H D I (hi D σ H q)
end
def cB(l:Addr)(H H':Hp):Prop:=∀ a o,H a=some o->a≠l->H' a=some o
theorem aK.keep{l:Addr}{H H':Hp}(s:aK H H'):cB l H H':=λa o e _=>s a o e
theorem cB.refl(l:Addr)(H:Hp):cB l H H:=λ_ _ e _=>e
theorem cB.trans{l:Addr}{H H1 H2:Hp}(a:cB l H H1)(b:cB l H1 H2):cB l H H2:=λc o e n=>b c o (a c o e n) n
theorem aG(l:Addr)(H:Hp)(o:HO):cB l H (aM H l o):=λa u e n=>by rw[aJ n];exact e
theorem bS{l:Addr}{H H1 H2:Hp}(h:H l=none)(a:aK H H1)(b:cB l H1 H2):aK H H2:=λc o e=>b c o (a c o e) (az e h)
theorem ak{H:Hp}{p:Addr}(h:H p=none)(o:HO):aK H (aM H p o):=λb u q=>by rw[aJ (az q h)];exact q
theorem iE{l a:Addr}{H H':Hp}(k:cB l H H')(n:a≠l)(h:H' a=none):H a=none:=by
 cases q:H a with
 | none=>rfl
 | some o=>rw[k a o q n]at h;cases h
def dB(H:Hp)(l c:Addr):Prop:=c≠l/\∃ (ns:List Int) (i d r:Int),H l=some (.lst [.ref c,.int i,.int d,.int r])/\H c=some (.lst (ns.map V.int))/\0<=i/\0<=r/\r<2147483647
theorem dB.same{H H':Hp}{l c:Addr}(s:dB H l c)(k:aK H H'):dB H' l c:=by
 obtain⟨n,ns,i,d,r,h1,h2,h3⟩:=s;exact⟨n,ns,i,d,r,k _ _ h1,k _ _ h2,h3⟩
theorem dB.keep{H H':Hp}{l c m:Addr}(s:dB H l c)(k:cB m H H')(h1:l≠m)(h2:c≠m):dB H' l c:=by
 obtain⟨n,ns,i,d,r,e1,e2,h3⟩:=s;exact⟨n,ns,i,d,r,k _ _ e1 h1,k _ _ e2 h2,h3⟩
theorem dB.ne{H:Hp}{l c a:Addr}(s:dB H l c)(h:H a=none):l≠a/\c≠a:=by
 obtain⟨n,ns,i,d,r,e1,e2,h3⟩:=s;exact⟨az e1 h,az e2 h⟩
theorem Ze{a b c d:V}:pG [a,b,c,d] 0=some a:=rfl
theorem VS{a b c d:V}:pG [a,b,c,d] 1=some b:=rfl
theorem Rk{a b c d:V}:pG [a,b,c,d] 2=some c:=rfl
theorem Zf{a b c d:V}:pG [a,b,c,d] 3=some d:=rfl
theorem Oc{a b:V}:pG [a,b] 0=some a:=rfl
theorem Lp{a b:V}:pG [a,b] 1=some b:=rfl
class inductive uJ
 | mk (l c:Addr) (b:Int) (_:vs=[.ref l,.int b]) (_:dB H l c) (_:0<b) (_:b<10^70) (_ :
 ∀ (v:Int) (H':Hp),0<=v->v<b->dB H' l c->(∀ a,a≠l->H' a=H a)->Q (.int v) H'):uJ vs H Q E
class inductive Ue(K:Frag)
 | mk (a:Addr) (ns:List Int) (_:vs=[.ref a]) (_:bI K H a (ns.map V.int)) (_ :
 ∀ (l c:Addr) (H':Hp),dB H' l c->aK H H'->H l=none->H c=none->Q (.ref l) H')
def ads:V->Bool
 | .int _ | .bl _ | .str _ | .gm=>true
 | _=>false
def Od(k:Bool)(H:Hp)(a:Addr)(xs:List V):Prop:=match k with
 | true=>H a=some (.lst xs)
 | false=>H a=some (.tup xs)
theorem Od.same{k:Bool}{H H':Hp}{a:Addr}{xs:List V}(h:Od k H a xs)(s:aK H H'):Od k H' a xs:=by
 cases k
 ·exact s _ _ h
 ·exact s _ _ h
theorem Od.sq{K:Frag}{k:Bool}{H:Hp}{a:Addr}{xs:List V}(h:Od k H a xs):J4 K k H a xs:=by
 cases k
 ·exact cY.of h
 ·exact bI.of h
def Eqv(H:Hp):Nat->V->V->Prop
 | 0,_,_=>False
 | n+1,x,y=>(ads x=true/\x=y)\/∃ (k:Bool) (a b:Addr) (xs ys:List V),x=.ref a/\y=.ref b/\Od k H a xs/\Od k H b ys/\xs.length=ys.length/\
   ∀ (i:Nat) (u v:V),xs[i]?=some u->ys[i]?=some v->Eqv H n u v
theorem Eqv.same{H H':Hp}(s:aK H H'):∀ {n:Nat} {x y:V},Eqv H n x y->Eqv H' n x y
 | 0,_,_,h=>h
 | n+1,x,y,h=>by
  rcases h with h|⟨k,a,b,xs,ys,e1,e2,h1,h2,hl,hi⟩
  ·exact .inl h
  ·exact .inr ⟨k,a,b,xs,ys,e1,e2,h1.same s,h2.same s,hl,λi u v eu ev=>Eqv.same s (hi i u v eu ev)⟩
theorem Eqv.int{H:Hp}{n:Nat}(i:Int):Eqv H (n+1) (.int i) (.int i):=.inl ⟨V⟩
def zG(n:Nat):Sp:=λvs H Q _=>∃ x y,vs=[x,y]/\Eqv H n x y/\∀ H',aK H H'->Q (.bl true) H'
class inductive J7
 | mk (i:Int) (_:vs=[.int i]) (_:Q (.bl true) H)
section
variable (K:Frag)
theorem Zg:kitOne K (.type "bool") (.type "bool")=some true:=by rfl
theorem Zh:kitOne K (.type "int") (.type "bool")=some false:=by kernel_rfl
theorem Zi:kitOne K (.type "int") (.type "int")=some true:=by rfl
theorem adt:kitOne K (.type "str") (.type "bool")=some false:=by kernel_rfl
theorem adu:kitOne K (.type "str") (.type "int")=some false:=by kernel_rfl
theorem Zj:kitOne K (.type "str") (.type "str")=some true:=by rfl
theorem adv:kitOne K (.type "list") (.type "bool")=some false:=by kernel_rfl
theorem adw:kitOne K (.type "list") (.type "int")=some false:=by kernel_rfl
theorem adx:kitOne K (.type "list") (.type "str")=some false:=by kernel_rfl
theorem Zk:kitOne K (.type "list") (.type "list")=some true:=by rfl
theorem k_lt:kitOne K (.type "list") (.type "tuple")=some false:=by kernel_rfl
theorem ady:kitOne K (.type "tuple") (.type "bool")=some false:=by kernel_rfl
theorem adz:kitOne K (.type "tuple") (.type "int")=some false:=by kernel_rfl
theorem adA:kitOne K (.type "tuple") (.type "str")=some false:=by kernel_rfl
theorem adB:kitOne K (.type "tuple") (.type "list")=some false:=by kernel_rfl
theorem adC:kitOne K (.type "tuple") (.type "tuple")=some true:=by rfl
end
def XW(k:Bool):Value:=.type (if k then "list" else "tuple")
theorem Od.ty{K:Frag}{k:Bool}{H:Hp}{a:Addr}{xs:List V}(h:Od k H a xs):kB K H (.ref a) (XW k):=by
 cases k
 ·exact kB.tup h
 ·exact kB.lst h
theorem adD(K:Frag)(k:Bool):kitOne K (XW k) (.type "bool")=some false:=by cases k;exact ady K;exact adv K
theorem adE(K:Frag)(k:Bool):kitOne K (XW k) (.type "int")=some false:=by cases k;exact adz K;exact adw K
theorem adF(K:Frag)(k:Bool):kitOne K (XW k) (.type "str")=some false:=by cases k;exact adA K;exact adx K
theorem Zl(K:Frag)(k:Bool):kitOne K (XW k) (.type "list")=some k:=by cases k;exact adB K;exact Zk K
theorem Zm(K:Frag)(k:Bool):kitOne K (XW k) (.type "tuple")=some (!k):=by cases k;exact adC K;exact k_lt K
def lE(H:Hp)(a:Addr)(p:Int × Int):Prop:=H a=some (.tup [.int p.1,.int p.2])
abbrev bg(H:Hp):List Addr->Row->Prop:=Paired (lE H)
inductive ck(H:Hp)(r:Addr)(row:Row):Prop
 | mk (as:List Addr) (_:H r=some (.lst (as.map V.ref))) (_:bg H as row)
theorem bg.tups{H H':Hp}{as:List Addr}{row:Row}(h:bg H as row)(t:∀ a xs,H a=some (.tup xs)->H' a=some (.tup xs)):bg H' as row:=Paired.CH h λa p e=>t a _ e
theorem bg.same{H H':Hp}{as:List Addr}{row:Row}(h:bg H as row)(s:aK H H'):bg H' as row:=h.tups λa xs e=>s a _ e
theorem ck.same{H H':Hp}{r:Addr}{row:Row}(h:ck H r row)(s:aK H H'):ck H' r row:=by
 obtain⟨as,h1,h2⟩:=h;exact⟨as,s _ _ h1,h2.same s⟩
theorem bg.keep{H H':Hp}{as:List Addr}{row:Row}{l:Addr}{xs:List V}(h:bg H as row)(hl:H l=some (.lst xs))(s:cB l H H'):bg H' as row :=
 h.tups λa ys e=>s a _ e (cV e hl)
theorem ck.keep{H H':Hp}{r:Addr}{row:Row}{l:Addr}{xs:List V}(h:ck H r row)(hl:H l=some (.lst xs))(n:r≠l)(s:cB l H H'):ck H' r row:=by
 obtain⟨as,h1,h2⟩:=h;exact⟨as,s _ _ h1 n,h2.keep hl s⟩
theorem bg.get{H:Hp}:∀ {as:List Addr} {row:Row} {i:Nat} {a:Addr},bg H as row->as[i]?=some a->∃ p,row[i]?=some p/\lE H a p
 | _,_,_,_,.nil,e=>by simp at e
 | _,_,0,_,.cons r _,e=>by simp at e;subst e;exact⟨Y,r⟩
 | _,_,i+1,a,.cons _ t,e=>by
  obtain⟨p,h1,h2⟩:=bg.get (i:=i) (a:=a) t (by simpa using e);exact⟨p,by simpa using h1,h2⟩
theorem bg.snoc{H:Hp}{as:List Addr}{row:Row}{a:Addr}{p:Int × Int}(h:bg H as row)(e:lE H a p):bg H (as++[a]) (row++[p]):=by
 induction h with
 | nil=>exact .cons e .nil
 | cons r _ ih=>exact .cons r ih
theorem bg.split{H:Hp}:∀ {as:List Addr} {row:Row} {p:Int × Int},bg H as (row++[p])->∃ bs a,as=bs++[a]/\bg H bs row/\lE H a p
 | as,[],p,h=>by
  cases h with
  | cons r t=>cases t;exact⟨[],Y,.nil,r⟩
 | as,q::row,p,h=>by
  cases h with
  | cons r t =>
   obtain⟨bs,a,rfl,h1,h2⟩:=bg.split (row:=row) (p:=p) t;exact⟨_::bs,a,rfl,.cons r h1,h2⟩
theorem bg.len{H:Hp}{as:List Addr}{row:Row}(h:bg H as row):as.length=row.length:=Paired.length h
theorem ck.eqv{H:Hp}{r q:Addr}{row:Row}(h:ck H r row)(g:ck H q row)(n:Nat):Eqv H (n+3) (.ref r) (.ref q):=by
 obtain⟨as,h1,h2⟩:=h;obtain⟨bs,g1,g2⟩:=g;refine .inr ⟨true,r,q,Z,h1,g1,by rw[cz,cz,h2.len,g2.len],λi u v eu ev=>?_⟩;rw[fP]at eu ev;obtain⟨a,ea,rfl⟩:=Option.map_eq_some_iff.mp eu;obtain⟨b,eb,rfl⟩:=Option.map_eq_some_iff.mp ev;obtain⟨p,e1,k1⟩:=h2.get ea;obtain⟨p',e2,k2⟩:=g2.get eb;rw[e1]at e2;cases e2;refine .inr ⟨false,a,b,Z,k1,k2,rfl,λj u v eu ev=>?_⟩;rw[eu]at ev;cases ev
 match j,eu with
 | 0,eu=>cases eu;exact Eqv.int _
 | 1,eu=>cases eu;exact Eqv.int _
theorem fT{α:Type}(xs:List α)(v:α):pG (xs++[v]) (-1)=some v:=NG xs v
theorem EW(n:Nat):JU (n+1) (-1)=some n:=by
 unfold JU;rw[if_neg (by decide),if_pos ∅];congr 1;lia
theorem zH{α:Type}(xs:List α)(a b:α):(xs++[a]).set xs.length b=xs++[b]:=by
 simp
theorem zI(lo:Int)(n:Nat):BR lo n=(run lo n).map V.int:=by
 unfold BR
 induction n generalizing lo with
 | zero=>rfl
 | succ n ih =>
  rw[List.range_succ_eq_map,jv,List.map_map,run,jv,← ih (lo+1)];congr 1
  ·simp
  ·apply List.map_congr_left;intro i _;simp only[Function.comp,Nat.succ_eq_add_one];congr 1;lia
class inductive J8(lim:Nat)
 | mk (r:Addr) (row:Row) (_:vs=[.ref r]) (_:ck H r row) (_:(∀ p∈row,0<=p.1/\p.1<=p.2/\p.2<2^62)) (_:(bu row).length<=1000000) (_:row.length<=lim) (_ :
 ∀ (n:Addr) (H':Hp),H' n=some (.lst ((bu row).map V.int))->aK H H'->H n=none->Q (.ref n) H')
class inductive Rl
 | mk (n:Addr) (ns:List Int) (_:vs=[.ref n]) (_:H n=some (.lst (ns.map V.int))) (_:ns.length<=1000000) (_ :
 ∀ (r:Addr) (H':Hp),ck H' r (cK ns)->aK H H'->H r=none->Q (.ref r) H')
class inductive Rm
 | mk (r:Addr) (row:Row) (_:vs=[.ref r]) (_:ck H r row) (_:row.length<=1000000) (_ :
 ∀ (q:Addr) (H':Hp),ck H' q (bZ row)->aK H H'->H q=none->Q (.ref q) H')
theorem aR{n:Nat}(h:n<=1000001):n<sizeLine:=Nat.lt_of_le_of_lt h (by decide)
end gx
namespace gx
open L2 cX
def VT:TS:=λD σ H=>∃ (l c:Addr) (b:Int),σ=[some (.ref l),some (.int b),none,none]/\dB H l c/\
 ∀ (cell:Option V) (H':Hp),dB H' l c->(∀ a,a≠l->H' a=H a)->D.nx [some (.ref l),some (.int b),cell,none] H'
def VU:TS:=λD σ H=>∃ (l c:Addr) (b:Int),σ=[some (.ref l),some (.int b),some (.int 7),none]/\dB H l c/\
 ∀ (cell:Int) (H':Hp),dB H' l c->(∀ a,a≠l->H' a=H a)->D.nx [some (.ref l),some (.int b),some (.int cell),none] H'
theorem Rn{ns:List Int}{i:Int}(h0:0<=i)(h1:i<(ns.length:Int)):∃ v:Int,pG (ns.map V.int) i=some (.int v):=by
 have hk:i.toNat<ns.length:=by lia
 exists ns[i.toNat]
 have q:pG (ns.map V.int) ((i.toNat:Nat):Int)=some (.int ns[i.toNat]):=dc (by rw[fP,qM hk] <;> rfl)
 have ei:((i.toNat:Nat):Int)=i:=by lia
 rw[ei]at q;exact q
theorem Oe(ns:List Int)(lo hi:Option Int):∃ ms:List Int,kC (ns.map V.int) lo hi=ms.map V.int:=by
 unfold kC;exists (ns.drop (HT.i6 (ns.map V.int).length 0 lo)).take (HT.i6 (ns.map V.int).length (ns.map V.int).length hi-HT.i6 (ns.map V.int).length 0 lo);rw[List.map_take,List.map_drop]
theorem tt{p:Prop} [Decidable p] {Q:V->Hp->Prop} {H:Hp} (hp:p) (h:Q (.bl true) H):Q (.bl (decide p)) H:=by
 rw[decide_eq_true hp];exact h
theorem Od.or{K:Frag}{k:Bool}{H:Hp}{a:Addr}{xs:List V}(h:Od k H a xs):bI K H a xs\/cY K H a xs:=by
 cases k
 ·exact .inr (cY.of h)
 ·exact .inl (bI.of h)
theorem bY{l:Addr}{H H':Hp}(k:∀ a,a≠l->H' a=H a):cB l H H':=λa o e n=>by rw[k a n];exact e
end gx
namespace gx
open L2 cX
theorem dB.lst{H:Hp}{l c:Addr}(s:dB H l c):∃ xs,H l=some (.lst xs):=by
 obtain⟨n,ns,i,d,r,e1,_⟩:=s;exact⟨_,e1⟩
end gx
namespace cX
open Spec Rows L2
section
variable {prog:Program} {w:World} {A:Around} {R:Result->Shared->Prop} {s:Shared}
def sH(jT:List Expr)(env:Env):Sem Bool:=forIn jT true λc r=>if r=true then do let ok ← isTrue c env (eval c env);pure (ForInStep.yield ok) else pure (ForInStep.yield r)
theorem Lq{iter:Expr}{scope:Scope}{it acc:Value}{env:Env}(I:Nat->Shared->Prop)
  (pF:∀ n s,I n s->wpAny (model prog w) A (pyNext it) (λr s₁=>match r with
   | none=>R (.ok .next) s₁
   | some v=>wpAny (model prog w) A (letOwnedTupleGo wJ it v) (λ_ s₂=>wpAny (model prog w) A (assign wJ env v) (λ_ s₃ =>
     wpAny (model prog w) A (sH jT env) (λok s₄ =>
      if ok=true then wpAny (model prog w) A (eval kg env) (λx s₅=>wpAny (model prog w) A (call (.builtin "list.append") [acc,x]) (λ_ s₆=>∃ m,m<n/\I m s₆) (λ_ _=>False) s₅) (λ_ _=>False) s₄
      else ∃ m,m<n/\I m s₄) (λ_ _=>False) s₃) (λ_ _=>False) s₂) (λ_ _=>False) s₁) (λ_ _=>False) s)
  (n:Nat) (h:I n s):codeAny (model prog w) A (.compLoop (.ListComp kg [⟨wJ,iter,jT,0⟩] scope pos) 0 it acc env) R s:=by
 refine codeAny_loop rfl I (λn s hI=>?_) n h;show wpAny _ A ((compTurn (.ListComp kg [⟨wJ,iter,jT,0⟩] scope pos) 0 it acc env).onRaise (λx=>do noteFrame x env;theTreesLotGoes x)) _ _ s;refine wpAny_noted ?_;rw[compTurn_list];refine wpAny_bind (wpAny_standAt (wpAny_bind (wpAny_mono (pF n s hI) (λr s₁ h₁=>?_) λ_ _ h'=>h'.elim)))
 cases r with
 | none=>exact wpAny_pure h₁
 | some v =>
  refine wpAny_bind (wpAny_mono h₁ (λ_ s₂ h₂=>wpAny_bind (wpAny_mono h₂ (λ_ s₃ h₃=>wpAny_bind (wpAny_mono h₃ (λok s₄ h₄=>?_) λ_ _ h'=>h'.elim)) λ_ _ h'=>h'.elim)) λ_ _ h'=>h'.elim)
  cases ok with
  | false=>exact wpAny_pure ⟨rfl,h₄⟩
  | true=>exact wpAny_bind (wpAny_bind (wpAny_mono h₄ (λx s₅ h₅=>wpAny_bind (wpAny_mono h₅ (λ_ s₆ h₆=>wpAny_pure (wpAny_pure ⟨rfl,h₆⟩)) λ_ _ h'=>h'.elim)) λ_ _ h'=>h'.elim))
end
section
variable {X:Cx} {N:List Str} {scope:Scope}
def Lr(X:Cx)(jT:List Expr)(t:TT):Prop :=
 ∀ (ao:List (Addr × Obj)) (s:Shared) (σ:L2.St) (H:Hp) (Q:Bool->Hp->Prop),Inv X ao σ H s->t σ H Q->wpAny (model X.prog X.w) X.A (sH jT X.env) (TP X ao σ Q) X.xe s
def Of:TT:=λ_ H Q=>Q true H
theorem jb:Lr X [] Of:=λao s σ H Q I h=>wpAny_tests_nil ⟨H,I,h⟩
theorem C6{c:Expr}{t:TT}(h:PT X c t):Lr X [c] t:=λao s σ H Q I q=>wpAny_tests_one (h ao s σ H Q I q)
end
end cX
namespace cX
open Spec Rows L2
end cX
namespace cX
open Spec Rows L2
section
variable {prog:Program} {w:World} {A:Around} {R:Result->Shared->Prop} {s:Shared}
theorem Ro(kg tg iter qL dP:Expr)(jT jj:List Expr)(scope:Scope)(pos:Pos)(it acc:Value)(env:Env) :
  compTurn (.ListComp kg [⟨tg,iter,jT,0⟩,⟨qL,dP,jj,0⟩] scope pos) 1 it acc env=(do
   standAt dP.pos
   match ← pyNext it with
   | none=>pure (.done .next)
   | some v =>
    letOwnedTupleGo qL it v
    assign qL env v
    let ok ← sH jj env
    if ok then (do let _ ← call (.builtin "list.append") [acc,← eval kg env])
    again (.compLoop (.ListComp kg [⟨tg,iter,jT,0⟩,⟨qL,dP,jj,0⟩] scope pos) 1 it acc env)):=by rfl
theorem Og(kg tg iter qL dP:Expr)(jT jj:List Expr)(scope:Scope)(pos:Pos)(it acc:Value)(env:Env) :
  compTurn (.ListComp kg [⟨tg,iter,jT,0⟩,⟨qL,dP,jj,0⟩] scope pos) 0 it acc env=(do
   standAt iter.pos
   match ← pyNext it with
   | none=>pure (.done .next)
   | some v =>
    letOwnedTupleGo tg it v
    assign tg env v
    let ok ← sH jT env
    if ok then
     let x ← eval dP env
     standAt dP.pos
     let x ← foldedSetIterable dP env x
     let _ ← runOwn (.compStart (.ListComp kg [⟨tg,iter,jT,0⟩,⟨qL,dP,jj,0⟩] scope pos) 1 (← holding [x] (pyIter x)) acc env) env
    again (.compLoop (.ListComp kg [⟨tg,iter,jT,0⟩,⟨qL,dP,jj,0⟩] scope pos) 0 it acc env)):=by rfl
theorem VW{iter:Expr}{scope:Scope}{it acc:Value}{env:Env}(I:Nat->Shared->Prop)
  (pF:∀ n s,I n s->wpAny (model prog w) A (pyNext it) (λr s₁=>match r with
   | none=>R (.ok .next) s₁
   | some v=>wpAny (model prog w) A (letOwnedTupleGo qL it v) (λ_ s₂=>wpAny (model prog w) A (assign qL env v) (λ_ s₃ =>
     wpAny (model prog w) A (sH jj env) (λok s₄ =>
      if ok=true then wpAny (model prog w) A (eval kg env) (λx s₅=>wpAny (model prog w) A (call (.builtin "list.append") [acc,x]) (λ_ s₆=>∃ m,m<n/\I m s₆) (λ_ _=>False) s₅) (λ_ _=>False) s₄
      else ∃ m,m<n/\I m s₄) (λ_ _=>False) s₃) (λ_ _=>False) s₂) (λ_ _=>False) s₁) (λ_ _=>False) s)
  (n:Nat) (h:I n s):codeAny (model prog w) A (.compLoop (.ListComp kg [⟨tg,iter,jT,0⟩,⟨qL,dP,jj,0⟩] scope pos) 1 it acc env) R s:=by
 refine codeAny_loop rfl I (λn s hI=>?_) n h;show wpAny _ A ((compTurn (.ListComp kg [⟨tg,iter,jT,0⟩,⟨qL,dP,jj,0⟩] scope pos) 1 it acc env).onRaise (λx=>do noteFrame x env;theTreesLotGoes x)) _ _ s;refine wpAny_noted ?_;rw[Ro];refine wpAny_bind (wpAny_standAt (wpAny_bind (wpAny_mono (pF n s hI) (λr s₁ h₁=>?_) λ_ _ h'=>h'.elim)))
 cases r with
 | none=>exact wpAny_pure h₁
 | some v =>
  refine wpAny_bind (wpAny_mono h₁ (λ_ s₂ h₂=>wpAny_bind (wpAny_mono h₂ (λ_ s₃ h₃=>wpAny_bind (wpAny_mono h₃ (λok s₄ h₄=>?_) λ_ _ h'=>h'.elim)) λ_ _ h'=>h'.elim)) λ_ _ h'=>h'.elim)
  cases ok with
  | false=>exact wpAny_pure ⟨rfl,h₄⟩
  | true=>exact wpAny_bind (wpAny_bind (wpAny_mono h₄ (λx s₅ h₅=>wpAny_bind (wpAny_mono h₅ (λ_ s₆ h₆=>wpAny_pure (wpAny_pure ⟨rfl,h₆⟩)) λ_ _ h'=>h'.elim)) λ_ _ h'=>h'.elim))
theorem Rp{iter:Expr}{scope:Scope}{it acc:Value}{env:Env}
  (h0:codeAny (model prog w) A (.compLoop (.ListComp kg [⟨tg,iter,jT,0⟩,⟨qL,dP,jj,0⟩] scope pos) 1 it acc env) R s)
  (h:wpAny (model prog w) A (pyIter it) (λRq s'=>codeAny (model prog w) A (.compLoop (.ListComp kg [⟨tg,iter,jT,0⟩,⟨qL,dP,jj,0⟩] scope pos) 1 Rq acc env) R s') (λ_ _=>False) s) :
  codeAny (model prog w) A (.compStart (.ListComp kg [⟨tg,iter,jT,0⟩,⟨qL,dP,jj,0⟩] scope pos) 1 it acc env) R s:=by
 refine codeAny_of_tree ?_;show wpAny _ _ ((compStart (.ListComp kg [⟨tg,iter,jT,0⟩,⟨qL,dP,jj,0⟩] scope pos) 1 it acc env).onRaise (λx=>do noteFrame x env;standAt theWindowsPlace)) _ _ s;refine wpAny_notedAt ?_;unfold compStart;show wpAny _ _ (ask >>= _) _ _ s;refine wpAny_bind (wpAny_askSetting (wpAny_ite ?_));split
 ·first
   | exact wpAny_bind (wpAny_pure (wpAny_pure (And.intro rfl h0)))
   | exact wpAny_pure (And.intro rfl h0)
 ·first
   | exact wpAny_bind (wpAny_rule (wpAny_bind (wpAny_standAt (wpAny_bind (wpAny_mono h (λRq s' h'=>wpAny_pure (And.intro rfl h')) λ_ _ x=>x.elim)))))
   | (refine wpAny_bind (wpAny_rule ?_);show wpAny _ _ (standAt dP.pos >>= _) _ _ s;exact wpAny_bind (wpAny_standAt (wpAny_bind (wpAny_mono h (λRq s' h'=>wpAny_pure (And.intro rfl h')) λ_ _ x=>x.elim))))
theorem Rt{iter:Expr}{scope:Scope}{it acc:Value}{env:Env}(I:Nat->Shared->Prop)
  (K0:∀ x,foldedSetIterable dP env x=pure x)
  (pF:∀ n s,I n s->wpAny (model prog w) A (pyNext it) (λr s₁=>match r with
   | none=>R (.ok .next) s₁
   | some v=>wpAny (model prog w) A (letOwnedTupleGo tg it v) (λ_ s₂=>wpAny (model prog w) A (assign tg env v) (λ_ s₃ =>
     wpAny (model prog w) A (sH jT env) (λok s₄ =>
      if ok=true then wpAny (model prog w) A (eval dP env) (λx s₅=>wpAny (model prog w) A (pyIter x) (λZn s₆ =>
       codeAny (model prog w) A (.compStart (.ListComp kg [⟨tg,iter,jT,0⟩,⟨qL,dP,jj,0⟩] scope pos) 1 Zn acc env) (λr s₇=>(∃ f,r=.ok f)/\∃ m,m<n/\I m s₇) s₆) (λ_ _=>False) s₅) (λ_ _=>False) s₄
      else ∃ m,m<n/\I m s₄) (λ_ _=>False) s₃) (λ_ _=>False) s₂) (λ_ _=>False) s₁) (λ_ _=>False) s)
  (n:Nat) (h:I n s):codeAny (model prog w) A (.compLoop (.ListComp kg [⟨tg,iter,jT,0⟩,⟨qL,dP,jj,0⟩] scope pos) 0 it acc env) R s:=by
 refine codeAny_loop rfl I (λn s hI=>?_) n h;show wpAny _ A ((compTurn (.ListComp kg [⟨tg,iter,jT,0⟩,⟨qL,dP,jj,0⟩] scope pos) 0 it acc env).onRaise (λx=>do noteFrame x env;theTreesLotGoes x)) _ _ s;refine wpAny_noted ?_;rw[Og];refine wpAny_bind (wpAny_standAt (wpAny_bind (wpAny_mono (pF n s hI) (λr s₁ h₁=>?_) λ_ _ h'=>h'.elim)))
 cases r with
 | none=>exact wpAny_pure h₁
 | some v =>
  refine wpAny_bind (wpAny_mono h₁ (λ_ s₂ h₂=>wpAny_bind (wpAny_mono h₂ (λ_ s₃ h₃=>wpAny_bind (wpAny_mono h₃ (λok s₄ h₄=>?_) λ_ _ h'=>h'.elim)) λ_ _ h'=>h'.elim)) λ_ _ h'=>h'.elim)
  cases ok with
  | false=>exact wpAny_pure ⟨rfl,h₄⟩
  | true =>
   refine wpAny_bind (wpAny_mono h₄ (λx s₅ h₅=>wpAny_bind (wpAny_standAt (wpAny_bind (wpAny_of_eq (K0 x) (wpAny_bind (wpAny_holding (wpAny_mono h₅ (λZn s₆ h₆=>?_) λ_ _ h'=>h'.elim))))))) λ_ _ h'=>h'.elim);refine wpAny_bind (wpAny_runOwn (codeAny_mono h₆ λr s₇ G5=>?_));obtain⟨⟨f,hf⟩,hm⟩:=G5;subst hf;exact wpAny_pure ⟨rfl,hm⟩
end
section
variable {X:Cx} {N:List Str} {scope:Scope}
def HQ(wi:TI)(acc:Addr)(g:TG)(tt:TT)(te:TE):L2.St->Hp->(L2.St->Hp->Prop)->Prop:=fun σ H Nx=>wi σ H λJ H1 =>
 ∃ W:Nat->Nat->L2.St->Hp->Prop,(∃ m,W 0 m σ H1)/\∀ i m σ H,W i m σ H->
  (J.stop i H/\Nx σ H)\/(J.go i H/\∃ N2:L2.St->Hp->Prop,(∀ σ' H',N2 σ' H'->∃ m',m'<m/\W (i+1) m' σ' H')/\∀ x H',J.Qx i H x H'->g x σ H' fun σ2 H2=>tt σ2 H2 λb H3 =>
   if b=true then te σ2 H3 λv H4=>∃ xs,H4 acc=some (.lst xs)/\xs.length<sizeLine/\N2 σ2 (aM H4 acc (.lst (xs++[v]))) else N2 σ2 H3)
theorem Ls{Y:Cx}{iter:Expr}{HR:TI}{g2:TG}{HS:TT}{te:TE}(hc:Y.calm=true)(hxe:Y.xe=λ_ _=>False)(hi:PI Y qL dP HR)(hg:PG Y qL g2)(ht:Lr Y jj HS)(he:PE Y kg te)
  {ao:List (Addr × Obj)} {s:Shared} {σ:L2.St} {H:Hp} {Nx:L2.St->Hp->Prop} (I:Inv Y ao σ H s) (h:HQ HR acc g2 HS te σ H Nx) :
  wpAny (model Y.prog Y.w) Y.A (eval dP Y.env) (λx s₅=>wpAny (model Y.prog Y.w) Y.A (pyIter x) (λZn s₆ =>
   codeAny (model Y.prog Y.w) Y.A (.compStart (.ListComp kg [⟨tg,iter,jT,0⟩,⟨qL,dP,jj,0⟩] scope pos) 1 Zn (.ref acc) Y.env) (λr s₇=>(∃ f,r=.ok f)/\∃ σ' H',Inv Y ao σ' H' s₇/\Nx σ' H') s₆) (λ_ _=>False) s₅) (λ_ _=>False) s:=by
 have Zo:=hi ao s σ H _ I h;have hg':=hg;have ht':=ht;have J9:=he;unfold PG at hg';unfold Lr at ht';unfold PE at J9;rw[hxe]at Zo hg' ht' J9;refine c9 Zo λv s1 h1=>c9 h1 λYI s2 h2=>?_;obtain⟨it,fp,tn,J,H2,e,I2,T,st2,f2,W,⟨m0,w0⟩,pF⟩:=h2;subst e;have ue:∀ {H':Hp},(∀ b∈fp,H' b=none)->∀ b∈fp,qF Y ao H' b:=λhn b hb=>⟨hn b hb,(f2 b hb).2⟩
 have loop:codeAny (model Y.prog Y.w) Y.A (.compLoop (.ListComp kg [⟨tg,iter,jT,0⟩,⟨qL,dP,jj,0⟩] scope pos) 1 (.ref it) (.ref acc) Y.env) (λr s₇=>(∃ f,r=.ok f)/\∃ σ' H',Inv Y ao σ' H' s₇/\Nx σ' H') s2:=by
  refine VW (λn s'=>∃ i σ' H',Inv Y ao σ' H' s'/\tn i s'.heap/\(∀ b∈fp,H' b=none)/\W i n σ' H') ?_ m0 ⟨0,σ,H2,I2,st2,λb hb=>(f2 b hb).1,w0⟩;rintro n s6 ⟨i,σ6,H6,I6,Ug,EX,w6⟩;rcases pF i n σ6 H6 w6 with ⟨stop,qn⟩|⟨go,N2,hN,step⟩
  ·refine c9 (T.done Y rfl rfl rfl hc i ao s6 σ6 H6 _ I6 (ue EX) Ug stop) λr s7 G7=>?_;obtain⟨hr,I7⟩:=G7;subst hr;exact⟨⟨Y⟩,σ6,H6,I7,qn⟩
  ·refine c9 (T.item Y rfl rfl rfl hc i ao s6 σ6 H6 _ I6 (ue EX) Ug go) λr s7 G6=>?_;obtain⟨u,hr,h7⟩:=G6;subst hr;refine c9 h7 λ_ s8 AR=>?_;obtain⟨x,H8,I8,r8,y8,Oh,C7⟩:=AR;have Zp:=I8.pinned (ue C7) (T.obj _ _ Oh);refine c9 (hg' _ s8 σ6 H8 x u _ Zp r8 (step x H8 y8)) λ_ s9 EF=>?_;obtain⟨σ9,H9,I9,q9⟩:=EF;refine c9 (ht' _ s9 σ9 H9 _ I9 q9) λok s10 CM=>?_;obtain⟨MV,Uh,BN⟩:=CM
   have again:∀ {σ7:L2.St} {H7:Hp} {wA:Shared},Inv Y (ao++ud fp s8.heap) σ7 H7 wA->N2 σ7 H7->∃ m,m<n/\∃ i σ' H',Inv Y ao σ' H' wA/\tn i wA.heap/\(∀ b∈fp,H' b=none)/\W i m σ' H':=λ{σ7 H7 wA} I7 n7=>by
    obtain⟨m',hm,w7⟩:=hN σ7 H7 n7;refine⟨m',hm,i+1,σ7,H7,I7.oO,T.keep _ _ _ Oh λb hb o e=>(I7.pin (b,o) (oN _ (oN _ (gS hb e)))).1,λb hb=>?_,w7⟩;obtain⟨o,e,d⟩:=T.obj _ _ Oh b hb;exact (I7.pin (b,o) (oN _ (oN _ (gS hb e)))).2.1
   cases ok with
   | false =>
    rw[if_neg gf]at BN;exact again Uh BN
   | true =>
    rw[if_pos rfl]at BN;refine c9 (J9 _ s10 σ9 MV _ Uh BN) λv wA G4=>?_;obtain⟨y,H11,I11,r11,xs,hx,hz,n11⟩:=G4;have ap:=bU _ wA σ9 H11 (.ref acc) [y] (.ref acc) [v] (λ_ H'=>N2 σ9 H') I11 rfl (.cons r11 .nil) ⟨_,xs,y,V,hx,hz,n11⟩;rw[hxe]at ap;exact c9 ap λ_ jU ⟨_,Zq,I12,_,VX⟩=>again I12 VX
 exact Rp loop (T.self _ _ _ _ _ st2 loop)
end
theorem VY{i:Nat}{v:V}{σ:L2.St}{H:Hp}{Q:L2.St->Bool->Hp->Prop}(h:Q (σ.set i (some v)) true H):tM i v σ H (fun σ2 H2=>Of σ2 H2 (Q σ2)):=h
theorem yes{σ:L2.St}{H:Hp}{Q:Bool->Hp->Prop}(h:Q true H):Of σ H Q:=h
end cX
namespace gx
open L2 cX
theorem HU{row:Row}{i:Nat}{p:Int × Int}(h:row[i]?=some p):bu (row.take (i+1))=bu (row.take i)++fN p:=by
 rw[take_snoc h,cU,eV]
theorem AX(row:Row)(i:Nat):(bu (row.take i)).length<=(bu row).length:=by
 conv=>rhs;rw[← List.take_append_drop i row,cU,cP]
 lia
theorem zJ{H0 H2:Hp}{q t:Addr}{bs:List Addr}{row:Row}{st en:Int}(VZ:H0 q=none)(s:aK H0 H2)(eL:H2 q=some (.lst (bs.map V.ref)))(hb:bg H2 bs row)(ht:H2 t=none) :
  (aM (aM H2 t (.tup [.int st,.int en])) q (.lst (bs.map V.ref++[.ref t]))) q=some (.lst ((bs++[t]).map V.ref))/\
  bg (aM (aM H2 t (.tup [.int st,.int en])) q (.lst (bs.map V.ref++[.ref t]))) (bs++[t]) (row++[(st,en)])/\aK H0 (aM (aM H2 t (.tup [.int st,.int en])) q (.lst (bs.map V.ref++[.ref t]))):=by
 have Oi:q≠t:=az eL ht;have s1:aK H2 (aM H2 t (.tup [.int st,.int en])):=ak ht _;refine⟨by rw[af,gy];rfl,?_,bS VZ (s.trans s1) (aG q _ _)⟩;refine bg.snoc ((hb.same s1).keep (s1 _ _ eL) (aG q _ _)) ?_;show aM _ q _ t=_;rw[aJ Oi.symm,af]
theorem turned{H0 H2:Hp}{q t a:Addr}{bs:List Addr}{row:Row}{st en:Int}(VZ:H0 q=none)(s:aK H0 H2)(eL:H2 q=some (.lst (bs.map V.ref++[.ref a])))(hb:bg H2 bs row)(ht:H2 t=none) :
  (aM (aM H2 t (.tup [.int st,.int en])) q (.lst ((bs.map V.ref++[V.ref a]).set bs.length (V.ref t)))) q=some (.lst ((bs++[t]).map V.ref))/\
  bg (aM (aM H2 t (.tup [.int st,.int en])) q (.lst ((bs.map V.ref++[V.ref a]).set bs.length (V.ref t)))) (bs++[t]) (row++[(st,en)])/\aK H0 (aM (aM H2 t (.tup [.int st,.int en])) q (.lst ((bs.map V.ref++[V.ref a]).set bs.length (V.ref t)))):=by
 have Oi:q≠t:=az eL ht;have s1:aK H2 (aM H2 t (.tup [.int st,.int en])):=ak ht _
 have e:(bs.map V.ref++[V.ref a]).set bs.length (V.ref t)=(bs++[t]).map V.ref:=by
  have z:=zH (bs.map V.ref) (V.ref a) (V.ref t);rw[cz]at z;rw[z,gy];rfl
 rw[e];refine⟨af,?_,bS VZ (s.trans s1) (aG q _ _)⟩;refine bg.snoc ((hb.same s1).keep (s1 _ _ eL) (aG q _ _)) ?_;show aM _ q _ t=_;rw[aJ Oi.symm,af]
theorem HV(bs:List Addr)(a:Addr):JU (bs.map V.ref++[V.ref a]).length (-1)=some bs.length:=by
 rw[cP,cz,qD];exact EW _
theorem BU{f:Row->Int × Int->Row}{row:Row}{i:Nat}{p:Int × Int}(h:row[i]?=some p):(row.take (i+1)).foldl f []=f ((row.take i).foldl f []) p:=foldl_take_succ f row [] i p h
theorem EY(row:Row):∀ t:Row,(row.foldl dI t).length<=t.length+row.length:=by
 induction row with
 | nil=>intro t;simp
 | cons p row ih =>
  intro t;have h1:=ih (dI t p)
  have h2:(dI t p).length<=t.length+1:=by
   unfold dI;split
   ·lia
   ·exact xY _ _ _
  rw[kq,lR];lia
theorem zK(ns:List Int):∀ t:Row,(ns.foldl (λt n=>iQ t n (n+1)) t).length<=t.length+ns.length:=by
 induction ns with
 | nil=>intro t;simp
 | cons n ns ih =>
  intro t;have h1:=ih (iQ t n (n+1));have h2:=xY t n (n+1);rw[kq,lR];lia
end gx
namespace gx
open Spec Rows L2 cX
class inductive V0
 | mk (r:Addr) (row:Row) (_:vs=[.ref r]) (_:ck H r row) (_:row.length<=1000000) (_: ∀ H',aK H H'->Q (.int (ja row)) H')
end gx
namespace fO
open Spec Rows PySem.W L2
end fO
namespace fO
open Spec Rows L2
section
variable {X:Cx}
theorem Ka{wW y:Str}{m n:Nat}(h:wW.length+(n+m)<=1000000)(hy:y.length<=n):(wW++y).length<=sizeLine/\(wW++y).length+m<=1000000:=by
 rw[PySem.strLen_append];refine⟨Nat.le_of_lt (Nat.lt_of_le_of_lt (show wW.length+y.length<=1000000 by lia) (by decide)),Q⟩
def Ru(r r' r2:R2)(ta tb tc td:TE):TT:=fun σ H Q=>ta σ H λx H1=>tb σ H1 λy H2=>r x y H2 λz H3=>∃ k,z=.bl k/\
 (if k=true then tc σ H3 λu H4=>r' y u H4 λz' H5=>∃ k',z'=.bl k'/\(if k'=true then td σ H5 λv H6=>r2 u v H6 λz2 H7=>∃ k2,z2=.bl k2/\Q k2 H7 else Q false H5) else Q false H3)
theorem Lu{op Ep QA:CmpOp}{r r' r2:R2}{a b c d:Expr}{ta tb tc td:TE}(ho:uf X (compareOp op) r)(KR:uf X (compareOp Ep) r')(ho2:uf X (compareOp QA) r2)(ha:PE X a ta)(hb:PE X b tb)(hc:PE X c tc)(hd:PE X d td)
  (hm:lastMarks [op,Ep,QA] [b,c,d]=false:=by with_unfolding_all rfl):PT X (.Compare a [op,Ep,QA] [b,c,d] pos) (Ru r r' r2 ta tb tc td):=by
 intro ao s σ H Q I h
 refine isTrue_chain (c9 (ha ao s σ H _ I h) λv s1 ⟨x,H1,I1,r1,q1⟩=>test_link (c9 (hb ao s1 σ H1 _ I1 q1) λu s2 ⟨y,H2,I2,r2',q2⟩ =>
  c9 (ho ao s2 σ H2 x y v u _ I2 r1 r2' q2) λz s3 ⟨z',H3,I3,r3,k,e,q3⟩=>?_)) hm
 subst e;cases r3;refine wpAny_truthy_bool ?_
 cases k with
 | false=>exact ite_ff ⟨H3,I3,q3⟩
 | true =>
  refine ite_tt (test_link (c9 (hc ao s3 σ H3 _ I3 q3) λv4 s4 ⟨x4,H4,I4,r4,q4⟩=>c9 (KR ao s4 σ H4 y x4 u v4 _ I4 r2' r4 q4) λz5 s5 G7=>?_));obtain⟨x5,H5,I5,r5,k5,e5,q5⟩:=G7;subst e5;cases r5;refine wpAny_truthy_bool ?_
  cases k5 with
  | false=>exact ite_ff ⟨H5,I5,q5⟩
  | true =>
   refine ite_tt (test_last (c9 (hd ao s5 σ H5 _ I5 q5) λv6 s6 ⟨x6,H6,I6,r6,q6⟩=>c9 (ho2 ao s6 σ H6 x4 x6 v4 v6 _ I6 r4 r6 q6) λz7 s7 G6=>?_));obtain⟨x7,H7,I7,r7,k7,e7,q7⟩:=G6;subst e7;cases r7;exact wpAny_truthy_bool ⟨H7,I7,q7⟩
end
end fO
namespace gx
open L2 cX fO
theorem aY{H H':Hp}{a:Addr}(s:aK H H')(h:H' a=none):H a=none:=by
 cases q:H a with
 | none=>rfl
 | some o=>rw[s a o q]at h;cases h
def wB(i:Int):Prop:=-(10^60)<i/\i<10^60
def Oj(a b h:Int)(p:Int × Int):Row:=if max (a-h) 0<min (b-h) (p.2-p.1) then [(p.1+max (a-h) 0,p.1+min (b-h) (p.2-p.1))] else []
def kW(a b:Int):Int->Row->Row
 | _,[]=>[]
 | h,p::r=>Oj a b h p++kW a b (h+(p.2-p.1)) r
theorem EZ(a b:Int)(p:Int × Int):∀ (r:Row) (c:Int),kW a b c (r++[p])=kW a b c r++Oj a b (c+ja r) p
 | [],c=>by simp[kW,Rj]
 | q::r,c=>by
  have e:c+(q.2-q.1)+ja r=c+ja (q::r):=by rw[EU];lia
  rw[List.cons_append,kW,EZ a b p r,kW,e,nC]
theorem Wa(a b h:Int)(p:Int × Int):(Oj a b h p).length<=1:=by
 unfold Oj
 split <;> simp
theorem j3(a b:Int):∀ (r:Row) (c:Int),(kW a b c r).length<=r.length
 | [],_=>fH _
 | q::r,c=>by
  have ih:=j3 a b r (c+(q.2-q.1));have z:=Wa a b c q;rw[kW,cP,lR];lia
theorem Ol(a b h:Int)(p:Int × Int):∀ q∈Oj a b h p,q.1<=q.2:=by
 unfold Oj;split
 ·intro q hq;simp only[List.mem_singleton]at hq;subst hq;simp only;lia
 ·intro q hq;cases hq
theorem C8(a b:Int):∀ (r:Row) (c:Int),∀ q∈kW a b c r,q.1<=q.2
 | [],_=>λq hq=>by cases hq
 | p::r,c=>λq hq=>by
  rw[kW]at hq;rcases List.mem_append.mp hq with z|z
  ·exact Ol a b c p q z
  ·exact C8 a b r _ q z
theorem E1(s:Int):∀ (n k:Nat),(run s n).drop k=run (s+k) (n-k)
 | n,0=>by simp
 | 0,k+1=>by simp[run]
 | n+1,k+1=>by
  rw[run,List.drop_succ_cons,E1 (s+1) n k];have e1:s+1+(k:Int)=s+((k+1:Nat):Int):=by lia
  have e2:n+1-(k+1)=n-k:=by lia
  rw[e1,e2]
theorem E2(s:Int):∀ (n k:Nat),(run s n).take k=run s (min k n)
 | n,0=>by simp[run]
 | 0,k+1=>by simp[run]
 | n+1,k+1=>by
  rw[run,List.take_succ_cons,E2 (s+1) n k];have e2:min (k+1) (n+1)=min k n+1:=by lia
  rw[e2,run]
theorem Lv(a b h:Int)(p:Int × Int)(hp:p.1<=p.2):bu (Oj a b h p)=((fN p).take (b-h).toNat).drop (a-h).toNat:=by
 obtain⟨s,e⟩:=p;simp only at hp;unfold Oj fN;simp only;rw[E2,E1,← Int.ofNat_toNat (a-h)];generalize (a-h).toNat=n;generalize b-h=x;have y0:0<=e-s:=by lia
 generalize e-s=y at y0
 have em:min x.toNat y.toNat=(min x y).toNat:=by
  rcases Int.le_total x y with c|c
  ·rw[Int.min_eq_left c,Nat.min_eq_left (Int.toNat_le_toNat c)]
  ·rw[Int.min_eq_right c,Nat.min_eq_right (Int.toNat_le_toNat c)]
 rw[em];generalize min x y=m;clear em y0 hp;by_cases c:(n:Int)<m
 ·rw[if_pos c,eV,fN];simp only;rw[Int.add_sub_add_left,Int.toNat_sub']
 ·rw[if_neg c,Nat.sub_eq_zero_of_le (Int.toNat_le.mpr (Int.not_lt.mp c))];rfl
theorem zL(b h:Int)(L:Nat):(b-(h+L)).toNat=(b-h).toNat-L:=by rw[← Int.sub_sub,Int.toNat_sub']
theorem sI(a b:Int):∀ (r:Row) (h:Int),(∀ p∈r,p.1<=p.2)->bu (kW a b h r)=((bu r).take (b-h).toNat).drop (a-h).toNat
 | [],h,_=>by simp[kW,bu]
 | p::r,h,ok=>by
  have hp:=ok p (List.mem_cons_self ..);have ih:=sI a b r (h+(p.2-p.1)) λq hq=>ok q (mE _ hq);have e:bu (p::r)=fN p++bu r:=rfl;have hl:=xZ p hp;rw[kW,cU,Lv a b h p hp,ih,e,List.take_append,List.drop_append,gB];congr 1;rw[← hl,zL,zL];by_cases hb:(fN p).length<=(b-h).toNat
  ·rw[Nat.min_eq_right hb]
  ·rw[Nat.sub_eq_zero_of_le (Nat.le_of_not_le hb)];simp
def MW(a b t:Int):Prop:=0<=a/\a<=b/\b<=t
class inductive E3
 | mk (r:Addr) (row:Row) (a b:Int) (_:vs=[.ref r,.int a,.int b]) (_:ck H r row) (_:row.length<=1000000) (_ :
 ∀ (q:Addr) (H':Hp),ck H' q (kW a b 0 row)->aK H H'->H q=none->Q (.ref q) H')
end gx
namespace gx
open L2 cX fO
end gx
namespace gx
open L2 cX fO
theorem jo(r:Row)(ok:∀ p∈r,p.1<=p.2):bu (bZ r)=bu r:=by rw[zD r ok,gA]
theorem qb(a b:Int)(row:Row)(ok:∀ p∈row,p.1<=p.2):bu (bZ (kW a b 0 row))=((bu row).take b.toNat).drop a.toNat:=by
 rw[jo _ (C8 a b row 0),sI a b row 0 ok,Int.sub_zero,Int.sub_zero]
theorem Kc(s:Int):∀ (n k:Nat),k<n->(run s n)[k]?=some (s+k)
 | 0,k,h=>by lia
 | n+1,0,_=>by simp[run]
 | n+1,k+1,h=>by
  rw[run,List.getElem?_cons_succ,Kc (s+1) n k ∅];congr 1;lia
theorem jq(r:Row):(bZ r).length<=r.length:=by
 have z:=EY r [];simpa [bZ] using z
end gx
namespace gx
open Spec Rows L2 cX fO
theorem bg.append{H:Hp}{as bs:List Addr}{r q:Row}(h:bg H as r)(t:bg H bs q):bg H (as++bs) (r++q):=by
 induction h with
 | nil=>exact t
 | cons e _ ih=>exact .cons e ih
theorem Wb{r q:Row}(h:∀ p∈r,p.1<=p.2)(g:∀ p∈q,p.1<=p.2):∀ p∈r++q,p.1<=p.2:=λp hp=>(List.mem_append.mp hp).elim (h p) (g p)
end gx
namespace L2
open Spec Rows
section
variable {κ:Type} [DecidableEq κ]
def cI(kvs:List (κ × V))(k:κ):Option V:=(kvs.find? λkv=>decide (kv.1=k)).map (·.2)
def eK(kvs:List (κ × V))(k:κ)(v:V):List (κ × V) :=
 if (kvs.any λkv=>decide (kv.1=k))=true then kvs.map (λkv=>if kv.1=k then (kv.1,v) else kv) else kvs++[(k,v)]
theorem gW{p:κ × V}{r:List (κ × V)}{k:κ}(e:p.1=k):cI (p::r) k=some p.2:=by simp[cI,List.find?_cons,e]
theorem gX{p:κ × V}{r:List (κ × V)}{k:κ}(e:¬ p.1=k):cI (p::r) k=cI r k:=by simp[cI,List.find?_cons,e]
theorem mX(k:κ):∀ kvs:List (κ × V),(kvs.any λkv=>decide (kv.1=k))=(cI kvs k).isSome
 | []=>rfl
 | p::r=>by
  rw[List.any_cons];by_cases e:p.1=k
  ·simp only[gW e,decide_eq_true e,Bool.true_or,Option.isSome_some]
  ·rw[gX e,decide_eq_false e,Bool.false_or];exact mX k r
theorem E4(k j:κ)(y:V):∀ kvs:List (κ × V),cI (kvs.map λkv=>if kv.1=k then (kv.1,y) else kv) j=(cI kvs j).map λx=>if j=k then y else x
 | []=>rfl
 | p::r=>by
  have ih:=E4 k j y r;rw[jv];by_cases h:p.1=k
  ·rw[if_pos h];by_cases e:p.1=j
   ·rw[gW (p:=(p.1,y)) e,gW e,Option.map_some,if_pos (e.symm.trans h)]
   ·rw[gX (p:=(p.1,y)) e,gX e,ih]
  ·rw[if_neg h];by_cases e:p.1=j
   ·rw[gW (p:=p) e,gW e,Option.map_some,if_neg (λz=>h (e.trans z))]
   ·rw[gX (p:=p) e,gX e,ih]
theorem BV(k j:κ)(y:V):∀ kvs:List (κ × V),cI kvs k=none->cI (kvs++[(k,y)]) j=if j=k then some y else cI kvs j
 | [],_=>by
  by_cases e:k=j
  ·rw[if_pos e.symm];exact gW (p:=(k,y)) e
  ·rw[if_neg (λz=>e z.symm)];exact gX (p:=(k,y)) e
 | p::r,hn=>by
  rw[List.cons_append];have hk:¬ p.1=k:=λz=>by rw[gW z]at hn;cases hn
  rw[gX hk]at hn;have ih:=BV k j y r hn;by_cases e:p.1=j
  ·rw[gW e,gW e,if_neg (λz=>hk (e.trans z))]
  ·rw[gX e,gX e,ih]
theorem kJ(kvs:List (κ × V))(k j:κ)(y:V):cI (eK kvs k y) j=if j=k then some y else cI kvs j:=by
 unfold eK;by_cases a:(kvs.any λkv=>decide (kv.1=k))=true
 ·rw[if_pos a,E4];rw[mX]at a;by_cases e:j=k
  ·obtain⟨x,hx⟩:=Option.isSome_iff_exists.mp a;rw[if_pos e,e,hx,Option.map_some,if_pos rfl]
  ·rw[if_neg e]
   cases cI kvs j with
   | none=>rfl
   | some x=>rw[Option.map_some,if_neg e]
 ·rw[if_neg a];refine BV k j y kvs ?_;rw[mX]at a
  cases q:cI kvs k with
  | none=>rfl
  | some x=>rw[q]at a;exact (a rfl).elim
theorem gY(kvs:List (κ × V))(k:κ)(v:V):(eK kvs k v).length<=kvs.length+1:=by
 unfold eK;split
 ·rw[cz];lia
 ·rw[cP,lR,qQ];lia
theorem zM{kvs:List (κ × V)}{k:κ}(v:V)(h:cI kvs k=none):eK kvs k v=kvs++[(k,v)]:=by
 unfold eK;rw[mX,h];exact if_neg (by decide)
theorem sY.wX{o:Option V}{u:Option Value}(r:sY o u):o.isSome=u.isSome:=by
 cases o with
 | none=>cases u with
  | none=>rfl
  | some _=>exact (show False from r).elim
 | some _=>cases u with
  | none=>exact (show False from r).elim
  | some _=>rfl
theorem KV.val{kvs:List (κ × V)}{vs:List (κ × Value)}(r:KV kvs vs)(k:κ):sY (cI kvs k) (valueAt vs k):=by
 unfold KV at r
 induction r with
 | nil=>exact True.intro
 | @cons p q ps qs h t ih =>
  obtain⟨h1,h2⟩:=h;by_cases e:p.1=k
  ·have e':q.1=k:=h1.symm.trans e;have b:valueAt (q::qs) k=some q.2:=by simp[valueAt,List.find?_cons,e']
   rw[gW e,b];exact h2
  ·have e':¬ q.1=k:=λz=>e (h1.trans z);have b:valueAt (q::qs) k=valueAt qs k:=by simp[valueAt,List.find?_cons,e']
   rw[gX e,b];exact ih
theorem KV.any{kvs:List (κ × V)}{vs:List (κ × Value)}(r:KV kvs vs)(k:κ):(kvs.any λkv=>decide (kv.1=k))=vs.any λkv=>decide (kv.1=k):=by
 unfold KV at r
 induction r with
 | nil=>rfl
 | cons h t ih=>rw[List.any_cons,List.any_cons,ih,h.1]
theorem KV.repl{kvs:List (κ × V)}{vs:List (κ × Value)}(r:KV kvs vs)(k:κ){y:V}{u:Value}(ry:RelV y u) :
  KV (kvs.map λkv=>if kv.1=k then (kv.1,y) else kv) (vs.map λkv=>if kv.1=k then (kv.1,u) else kv):=by
 unfold KV at r ⊢
 induction r with
 | nil=>exact .nil
 | @cons p q ps qs h t ih =>
  rw[jv,jv];refine .cons ?_ ih;obtain⟨h1,h2⟩:=h;by_cases e:p.1=k
  ·rw[if_pos e,if_pos (h1.symm.trans e)];exact⟨h1,ry⟩
  ·rw[if_neg e,if_neg (λz=>e (h1.trans z))];exact⟨h1,h2⟩
theorem KV.put{kvs:List (κ × V)}{vs:List (κ × Value)}(r:KV kvs vs)(k:κ){y:V}{u:Value}(ry:RelV y u):KV (eK kvs k y) (stored vs k u):=by
 unfold eK stored;rw[r.any k];by_cases e:(vs.any λkv=>decide (kv.1=k))=true
 ·rw[if_pos e,if_pos e];exact r.repl k ry
 ·rw[if_neg e,if_neg e];exact Paired.snoc r ⟨rfl,ry⟩
theorem KV.length{kvs:List (κ × V)}{vs:List (κ × Value)}(r:KV kvs vs):kvs.length=vs.length:=Paired.length r
end
theorem BW{P:Program}{w:World}{k:eT}{u:Value}(r:RelV (kV k) u):(fQ P w).is k u=true:=by
 cases k with
 | inl i=>obtain⟨t,e⟩:=(show ∃ t,u=Value.int i t from r);subst e;exact Ey P w i t
 | inr x=>obtain⟨t,e⟩:=(show ∃ t,u=Value.str x t from r);subst e;exact Ez P w x t
theorem BX{P:Program}{w:World}:∀ {ks:List eT} {us:List Value},cA (ks.map kV) us->ItemsAre (fQ P w) ks us
 | [],_,r=>by rw[List.map_nil]at r;cases r;exact .nil
 | k::ks,_,r=>by
  rw[jv]at r
  cases r with
  | cons h t=>exact .cons (BW h) (BX t)
abbrev KT(H:Hp):List (List eT × V)->List (List eT × Addr × Value)->Prop:=Paired λp q=>p.1=q.1/\H q.2.1=some (.tup (p.1.map kV))/\RelV p.2 q.2.2
theorem KT.val{H:Hp}{kvs:List (List eT × V)}{xs:List (List eT × Addr × Value)}(r:KT H kvs xs)(k:List eT):sY (cI kvs k) ((atKey xs k).map (·.2)):=by
 induction r with
 | nil=>exact True.intro
 | @cons p q ps qs h t ih =>
  obtain⟨h1,_,h2⟩:=h;by_cases e:p.1=k
  ·have e':q.1=k:=h1.symm.trans e;have b:atKey (q::qs) k=some q.2:=by simp[atKey,List.find?_cons,e']
   rw[gW e,b];exact h2
  ·have e':¬ q.1=k:=λz=>e (h1.trans z);have b:atKey (q::qs) k=atKey qs k:=by simp[atKey,List.find?_cons,e']
   rw[gX e,b];exact ih
theorem KT.repl{H:Hp}{kvs:List (List eT × V)}{xs:List (List eT × Addr × Value)}(r:KT H kvs xs)(k:List eT){y:V}{u:Value}(ry:RelV y u) :
  KT H (kvs.map λkv=>if kv.1=k then (kv.1,y) else kv) (xs.map (putAt k u)):=by
 induction r with
 | nil=>exact .nil
 | @cons p q ps qs h t ih =>
  rw[jv,jv];refine .cons ?_ ih;obtain⟨h1,h2,h3⟩:=h;unfold putAt;by_cases e:p.1=k
  ·rw[if_pos e,if_pos (h1.symm.trans e)];exact⟨h1,h2,ry⟩
  ·rw[if_neg e,if_neg (λz=>e (h1.trans z))];exact⟨h1,h2,h3⟩
theorem KT.put{H:Hp}{kvs:List (List eT × V)}{xs:List (List eT × Addr × Value)}(r:KT H kvs xs)(k:List eT){b:Addr}{y:V}{u:Value}(hb:H b=some (.tup (k.map kV)))(ry:RelV y u) :
  KT H (eK kvs k y) (storedH xs k b u):=by
 have e:(kvs.any λkv=>decide (kv.1=k))=(atKey xs k).isSome:=by
  rw[mX,(r.val k).wX,Option.isSome_map]
 unfold eK storedH;rw[e];by_cases q:(atKey xs k).isSome=true
 ·rw[if_pos q,if_pos q];exact r.repl k ry
 ·rw[if_neg q,if_neg q];exact Paired.snoc r ⟨rfl,hb,ry⟩
theorem KT.keeps{H H':Hp}{kvs:List (List eT × V)}{xs:List (List eT × Addr × Value)}(r:KT H kvs xs)(ht:∀ b ys,H b=some (.tup ys)->H' b=some (.tup ys)):KT H' kvs xs :=
 Paired.CH r λ_ _ z=>⟨z.1,ht _ _ z.2.1,z.2.2⟩
section
variable {P:Program} {w:World} {H:Hp} {h:Heap} {a:Addr}
theorem Ui{u:HO}(ok:vd P w H h)(e:Rd H a u):fR P w H h a u:=e.ok ok
theorem E5{kvs:List (eT × V)}(ok:vd P w H h)(e:Rd H a (.dK kvs)):kvs.length<=sizeLine/\(a == sysModules)=false/\∃ vs,KV kvs vs/\h.DictOf (fQ P w) a vs :=
 show fR P w H h a (.dK kvs) from Ui ok e
theorem Om{kvs:List (eT × V)}(ok:vd P w H h)(e:H a=some (.dK kvs)):kvs.length<=sizeLine/\(a == sysModules)=false/\∃ vs,KV kvs vs/\h.DictOf (fQ P w) a vs:=E5 ok (.inl e)
theorem C9{ks:List eT}(ok:vd P w H h)(e:H a=some (.tup (ks.map kV))):(tupleKind (fQ P w)).is h ks a:=by
 obtain⟨_,aL,r,o,h1,h2,n,h3⟩:=(show fR P w H h a (.tup (ks.map kV)) from ok a _ e);exact⟨o,aL.toArray,n,h1,h2,h3,by simpa using BX r⟩
theorem E6{kvs:List (List eT × V)}(ok:vd P w H h)(e:Rd H a (.dT kvs)):kvs.length<=sizeLine/\(a == sysModules)=false/\
  ∃ xs,KT H kvs xs/\h.DictOfH (tupleKind (fQ P w)) a xs:=by
 obtain⟨z,y,xs,r,o,es,ep,h1,h2,h3,h4,h5⟩:=(show fR P w H h a (.dT kvs) from Ui ok e);refine⟨z,y,xs,r,o,es,ep,h1,h2,h3,h4,λx hx=>?_,h5⟩
 have all:∀ {l:List (List eT × V)} {m:List (List eT × Addr × Value)},KT H l m->∀ x∈m,(tupleKind (fQ P w)).is h x.1 x.2.1:=by
  intro l m q
  induction q with
  | nil=>intro x hx;exact nomatch hx
  | @cons p q ps qs hq t ih =>
   intro x hx;rcases List.mem_cons.mp hx with e|hx
   ·subst e;exact C9 ok (by rw[← hq.1];exact hq.2.1)
   ·exact ih x hx
 exact all r x hx
theorem Zr{kvs:List (List eT × V)}(ok:vd P w H h)(e:H a=some (.dT kvs)):kvs.length<=sizeLine/\(a == sysModules)=false/\
  ∃ xs,KT H kvs xs/\h.DictOfH (tupleKind (fQ P w)) a xs:=E6 ok (.inl e)
end
def jD(H:Hp)(a:Addr)(y:V)(r:Option V):Prop :=
 (∃ kvs k,Rd H a (.dK kvs)/\y=kV k/\r=cI kvs k)\/∃ kvs k b,Rd H a (.dT kvs)/\y=.ref b/\H b=some (.tup (k.map kV))/\r=cI kvs k
def Dc(H:Hp)(a:Addr)(y v:V)(H':Hp):Prop :=
 (∃ kvs k,H a=some (.dK kvs)/\y=kV k/\kvs.length<sizeLine/\H'=aM H a (.dK (eK kvs k v)))\/
 ∃ kvs k b,H a=some (.dT kvs)/\y=.ref b/\H b=some (.tup (k.map kV))/\kvs.length<sizeLine/\H'=aM H a (.dT (eK kvs k v))
theorem jD.k{H:Hp}{a:Addr}{kvs:List (eT × V)}{k:eT}(e:H a=some (.dK kvs)):jD H a (kV k) (cI kvs k):=.inl ⟨kvs,k,.inl e,V⟩
theorem Dc.k{H:Hp}{a:Addr}{kvs:List (eT × V)}{k:eT}{v:V}(e:H a=some (.dK kvs))(hl:kvs.length<sizeLine):Dc H a (kV k) v (aM H a (.dK (eK kvs k v))):=.inl ⟨kvs,k,e,rfl,hl,rfl⟩
section
variable {X:Cx} {ao:List (Addr × Obj)} {σ:St} {H:Hp} {s:Shared} {a:Addr} {y v:V} {u r:Value} {o:Option V} {A:Around} {E:Value->Shared->Prop}
theorem Inv.big(I:Inv X ao σ H s):sysModules<s.heap.objs.size:=by
 have h:mainGlobals<s.heap.objs.size:=(I.mod.glob.keeps I.bk).lt;exact Nat.lt_trans (by decide) h
theorem Lw{Q:Value->Shared->Prop}(hu:A.units+1<cLine)(I:Inv X ao σ H s)(g:jD H a y (some v))(ry:RelV y u)(h:∀ w' s',Inv X ao σ H s'->RelV v w'->Q w' s') :
  wpAny (model X.prog X.w) A (getItem (.ref a) u) Q E s:=by
 rcases g with ⟨kvs,k,e,ey,l⟩|⟨kvs,k,b,e,ey,eb,l⟩
 ·subst ey;obtain⟨z,hd,vs,ya,dd⟩:=E5 I.hok e;obtain⟨w',hw,kZ⟩:=sY.some_of (v:=v) (o:=valueAt vs k) (by rw[l];exact ya.val k);exact wpAny_getItem_of (BW ry) dd.mapOf hw (h w' _ (I.tok _) kZ)
 ·subst ey;cases (show u=Value.ref b from ry);obtain⟨z,hd,xs,ya,dd⟩:=E6 I.hok e;obtain⟨w',hw,kZ⟩:=sY.some_of (v:=v) (o:=(atKey xs k).map (·.2)) (by rw[l];exact ya.val k);obtain⟨p,hp,Uj⟩:=Option.map_eq_some_iff.mp hw;refine wpAny_getItem_heap (tupleKind_room_in1 hu) (C9 I.hok eb) dd hp ?_;rw[Uj];exact h w' _ (I.tok _) kZ
theorem Rv{Q:Value->Shared->Prop}(hu:A.units+1<cLine)(I:Inv X ao σ H s)(g:jD H a y o)(ry:RelV y u)(h:∀ s',Inv X ao σ H s'->Q (.bool (!o.isSome)) s') :
  wpAny (model X.prog X.w) A (compareOp .NotIn u (.ref a)) Q E s:=by
 rcases g with ⟨kvs,k,e,ey,l⟩|⟨kvs,k,b,e,ey,eb,l⟩
 ·subst ey;obtain⟨z,hd,vs,ya,dd⟩:=E5 I.hok e;refine wpAny_notIn_of (BW ry) hd dd.mapOf ?_;rw[← (ya.val k).wX,← l];exact h _ (I.tok _)
 ·subst ey;cases (show u=Value.ref b from ry);obtain⟨z,hd,xs,ya,dd⟩:=E6 I.hok e;refine wpAny_notIn_heap (tupleKind_room_in1 hu) (C9 I.hok eb) hd dd ?_;have q:=(ya.val k).wX;rw[Option.isSome_map]at q;rw[← q,← l];exact h _ (I.tok _)
theorem yT{h':Heap}{t':Nat}{ob:HO}(I:Inv X ao σ H s)(mu:Yt (H a))(hs:Heap.SameBut a s.heap h')(he:∃ q,h'.get? a=some q)(new:fR X.prog X.w (aM H a ob) h' a ob) :
  Inv X ao σ (aM H a ob) { s with heap:=h',toks:=t' } :=
 I.write (x:=a) (e:=a) mu (.inl rfl) (λb q hb z=>(hs.2 b hb).trans z) he new
theorem HW{P:Program}{w:World}{H':Hp}{h':Heap}{kvs:List (eT × V)}{vs:List (eT × Value)}(z:kvs.length<=sizeLine)(hd:(a == sysModules)=false)(ya:KV kvs vs)(dd:h'.DictOf (fQ P w) a vs) :
  fR P w H' h' a (.dK kvs):=⟨z,hd,vs,ya,dd⟩
theorem Lx{H':Hp}{Q:Unit->Shared->Prop}(hu:A.units+1<cLine)(I:Inv X ao σ H s)(g:Dc H a y v H')(ry:RelV y u)(rv:RelV v r)(h:∀ s',Inv X ao σ H' s'->Q () s') :
  wpAny (model X.prog X.w) A (setItem (.ref a) u r) Q E s:=by
 rcases g with ⟨kvs,k,e,ey,l,eH⟩|⟨kvs,k,b,e,ey,eb,l,eH⟩
 ·subst ey eH;obtain⟨z,hd,vs,ya,dd⟩:=Om I.hok e;have hz:vs.length<=sizeLine:=by rw[← ya.length];exact z
  have hl:(eK kvs k v).length<=sizeLine:=by have:=gY kvs k v;lia
  refine wpAny_setItem_pairs (hsz:=hz) (BW ry) dd λh' QB hs=>h _ ?_;have he:∃ q,h'.get? a=some q:=let ⟨q,P,hq,_⟩:=QB;⟨q,hq⟩;exact yT I (by rw[e];exact True.intro) hs he (HW hl hd (ya.put k rv) QB)
 ·subst ey eH;cases (show u=Value.ref b from ry);obtain⟨z,hd,xs,ya,dd⟩:=Zr I.hok e;have hz:xs.length<=sizeLine:=by rw[← Paired.length ya];exact z
  have hl:(eK kvs k v).length<=sizeLine:=by have:=gY kvs k v;lia
  refine wpAny_setItem_heap (hsz:=hz) (tupleKind_room_in1 hu) (C9 I.hok eb) dd λh' QB hs=>h _ ?_;obtain⟨q,es,ep,hq,h2,h3,h4,_,h5⟩:=QB;refine yT I (by rw[e];exact True.intro) hs ⟨q,hq⟩ ⟨hl,hd,_,(ya.put k eb rv).keeps λc ys ec=>?_,q,es,ep,hq,h2,h3,h4,h5⟩;rw[aJ (cV ec e (λz=>nomatch z))];exact ec
end
def Wc(i:Expr):Prop:=∀ ov iv,subscripted i false ov iv=operate [ov,iv] (getItem ov iv)
theorem Rw{prog:Program}{w:World}{A:Around}{E:Value->Shared->Prop}{s:Shared}{env:Env}{T id:String}{Q:Value->Shared->Prop}
  (hl:typeLookup (.type T) "__getitem__"=pure (some (.builtin id))) (hs:Wc tO)
  (h:wpAny (model prog w) A (eval value env) (λo s₁=>wpAny (model prog w) A (eval tO env) (λi s₂=>s₂.TypeIs o T/\wpAny (model prog w) A (getItem o i) Q E s₂) E s₁) E s) :
  wpAny (model prog w) A (eval (.Subscript value tO pos) env) Q E s:=by
 refine Subscript_ (wpAny_mono h (λo s₁ h₁=>wpAny_mono h₁ (λi s₂ h₂=>?_) λ_ _ x=>x) λ_ _ x=>x);obtain⟨hT,h₂⟩:=h₂;unfold subscriptTail;refine wpAny_bind ?_;rw[getitemInPython_of_ne hT.not_modules];refine wpAny_bind (wpAny_specialOf hT hl ?_)
 have jN:wpAny (model prog w) A (subscripted tO false o i) (λr s₃=>wpAny (model prog w) A (letTemporaryGo value o r >>= λ_=>pure r) Q E s₃) E s₂:=by
  rw[hs o i];exact wpAny_operating (wpAny_mono h₂ (λr s₃ h₃=>wpAny_bind (wpAny_letTemporaryGo (wpAny_pure h₃))) λ_ _ x=>x)
 first
  | exact wpAny_pure (wpAny_bind jN)
  | exact wpAny_bind (wpAny_pure (wpAny_bind jN))
  | exact wpAny_bind jN
theorem E7{X:Cx}{σ:St}{H:Hp}{s:Shared}{a:Addr}{y:V}{o:Option V}(I:Inv X ao σ H s)(g:jD H a y o):s.TypeIs (.ref a) "dict":=by
 rcases g with ⟨kvs,k,e,_,_⟩|⟨kvs,k,b,e,_,_,_⟩
 ·obtain⟨_,_,vs,_,dd⟩:=E5 I.hok e;exact dd.typeIs
 ·obtain⟨_,_,xs,_,dd⟩:=E6 I.hok e;exact dd.typeIs
inductive Zs(x y:V)(H:Hp)(Q:VK):Prop
 | mk (a:Addr) (v:V) (_:x=.ref a) (_:jD H a y (some v)) (_:Q v H):Zs x y H Q
def Uk(td ty:TE):TE:=fun σ H Q=>td σ H λx H1=>ty σ H1 λy H2=>Zs x y H2 Q
def Rx(ty td:TE):TE:=fun σ H Q=>ty σ H λy H1=>td σ H1 λx H2=>∃ a o,x=.ref a/\jD H2 a y o/\Q (.bl (!o.isSome)) H2
def Zt(td ty tv:TE):TS:=λD σ H=>tv σ H λv H1=>td σ H1 λx H2=>ty σ H2 λy H3=>∃ a H4,x=.ref a/\Dc H3 a y v H4/\D.nx σ H4
section
variable {X:Cx} {o i e value:Expr} {pos iU La:Pos} {td ty tv:TE}
theorem Ry(hu:X.A.units+1<cLine)(ho:PE X o td)(hi:PE X i ty)(hs:Wc i):PE X (.Subscript o i pos) (Uk td ty):=by
 intro ao s σ H Q I h;refine Rw PySem.F.slot_dict_getitem.lookup hs (c9 (ho ao s σ H _ I h) λu s1 ⟨x,H1,I1,rx,q1⟩=>c9 (hi ao s1 σ H1 _ I1 q1) λiv s2 AR=>?_);obtain⟨y,H2,I2,ry,a,v,ex,g,q2⟩:=AR;subst ex;obtain rfl:u=Value.ref a:=rx;exact⟨E7 I2 g,Lw hu I2 g ry λw' s3 I3 kZ=>⟨v,H2,I3,kZ,q2⟩⟩
theorem BY(hu:X.A.units+1<cLine)(hi:PE X i ty)(ho:PE X o td):PC X .NotIn i o (Rx ty td):=by
 intro ao s σ H Q I h;refine c9 (hi ao s σ H _ I h) λiv s1 ⟨y,H1,I1,ry,q1⟩=>c9 (ho ao s1 σ H1 _ I1 q1) λu s2 CM=>?_;obtain⟨x,H2,I2,rx,a,ov,ex,g,q2⟩:=CM;subst ex;obtain rfl:u=Value.ref a:=rx;exact Rv hu I2 g ry λs3 I3=>⟨.bl (!ov.isSome),H2,I3,rfl,q2⟩
theorem vC(hu:X.A.units+1<cLine)(ho:PE X o td)(hi:PE X i ty)(hv:PE X value tv)(hs:swapsWith value (some (.Subscript o i iU)) pos.line X.env=pure false) :
  PS X (.Assign [.Subscript o i iU] value pos) (Zt td ty tv):=by
 intro ao s σ H D I h;refine wpAny_Assign_Subscript (c9 (hv ao s σ H _ I h) λr s1 ⟨v,H1,I1,rv,q1⟩=>c9 (ho ao s1 σ H1 _ I1 q1) λu s2 ⟨x,H2,I2,rx,q2⟩=>c9 (hi ao s2 σ H2 _ I2 q2) λiv s3 ⟨y,H3,I3,ry,a,H4,ex,g,q3⟩=>?_) hs;subst ex;obtain rfl:u=Value.ref a:=rx;exact Lx hu I3 g ry rv λs4 I4=>⟨σ,H4,I4,q3⟩
end
theorem E8{P:Program}{w:World}{H:Hp}(h:Heap)(hb:sysModules<h.objs.size):fR P w H (h.push { cls:=.type "dict",data:=.dict #[] }) h.objs.size (.dK []) :=
 ⟨Nat.zero_le _,beq_eq_false_iff_ne.mpr (Ne.symm (jS hb)),[],.nil,Heap.DictOf.new h⟩
def Wd:TE:=λ_ H Q=>∀ p,H p=none->Q (.ref p) (aM H p (.dK []))
section
variable {X:Cx} {pos:Pos}
theorem mY:PE X (.Dict [] [] pos) Wd:=λao s σ H Q I h =>
 wpAny_Dict_empty ⟨.ref s.heap.objs.size,_,I.laid (a:=s.heap.objs.size) (o:=.dK []) (t':=s.toks) (λ_ _ q=>Heap.get?_push_of_some _ q) (fH _) (E8 s.heap I.big),rfl,h _ (I.hok.fresh (fH _))⟩
end
def HX:List (TE × TE)->St->Hp->(List (V × V)->Hp->Prop)->Prop
 | [],_,H,Q=>Q [] H
 | (tk,tv)::r,σ,H,Q=>tk σ H λx H1=>tv σ H1 λy H2=>HX r σ H2 λps H3=>Q ((x,y)::ps) H3
abbrev VV:List (V × V)->List (Value × Value)->Prop:=Paired λp q=>RelV p.1 q.1/\RelV p.2 q.2
def PPs(X:Cx)(pos:Pos)(AY:List (Option Expr))(zN:List Expr)(Rz:List (TE × TE)):Prop :=
 ∀ (ao:List (Addr × Obj)) (s:Shared) (σ:St) (H:Hp) (Q:List (V × V)->Hp->Prop),Inv X ao σ H s->HX Rz σ H Q->
  wpAny (model X.prog X.w) X.A (evalPairs (pairTrees AY zN X.env pos)) (λvs s'=>∃ ps H',Inv X ao σ H' s'/\VV ps vs/\Q ps H') X.xe s
theorem RA{X:Cx}:PPs X pos [] [] []:=λao s σ H Q I h=>pairTrees_nil_walk ⟨[],H,I,.nil,h⟩
theorem vD{X:Cx}{k v:Expr}{ks:List (Option Expr)}{tk tv:TE}{Rz:List (TE × TE)}(hk:PE X k tk)(hv:PE X v tv)(hr:PPs X pos ks vs Rz) :
  PPs X pos (some k::ks) (v::vs) ((tk,tv)::Rz):=λao s σ H Q I h =>
 pairTrees_cons_walk (c9 (hk ao s σ H _ I h) λu s1 ⟨x,H1,I1,rx,q1⟩=>c9 (hv ao s1 σ H1 _ I1 q1) λw2 s2 ⟨y,H2,I2,ry,q2⟩ =>
  c9 (hr ao s2 σ H2 _ I2 q2) λws s3 ⟨ps,H3,I3,ya,q3⟩=>⟨(x,y)::ps,H3,I3,.cons ⟨rx,ry⟩ ya,q3⟩)
def wY(kvs more:List (eT × V)):List (eT × V):=more.foldl (λacc kv=>eK acc kv.1 kv.2) kvs
theorem KV.merge:∀ {more:List (eT × V)} {rs:List (eT × Value)} {kvs:List (eT × V)} {vs:List (eT × Value)},KV more rs->KV kvs vs->KV (wY kvs more) (merged vs rs):=by
 intro more rs kvs vs r;unfold KV at r
 induction r generalizing kvs vs with
 | nil=>intro q;exact q
 | @cons p q ps qs h t ih =>
  intro r0
  have e:KV (eK kvs p.1 p.2) (stored vs q.1 q.2):=by
   have:=r0.put p.1 h.2;rw[← h.1];exact this
  exact ih e
theorem tU:∀ (more kvs:List (eT × V)),(wY kvs more).length<=kvs.length+more.length
 | [],kvs=>by show kvs.length<=kvs.length+0;lia
 | p::r,kvs=>by
  have h1:=tU r (eK kvs p.1 p.2);have h2:=gY kvs p.1 p.2;show (wY (eK kvs p.1 p.2) r).length<=_;rw[lR];lia
theorem zO{P:Program}{w:World}:∀ {kvs:List (eT × V)} {ws:List (Value × Value)},VV (kvs.map λkv=>(kV kv.1,kv.2)) ws->∃ rs,Carries (fQ P w) ws rs/\KV kvs rs
 | [],_,r=>by rw[List.map_nil]at r;cases r;exact⟨[],True.intro,.nil⟩
 | p::kvs,_,r=>by
  rw[jv]at r
  cases r with
  | @cons a b as bs h t =>
   obtain⟨rs,c,q⟩:=zO (P:=P) (w:=w) t;obtain⟨b1,b2⟩:=b;exact⟨(p.1,b2)::rs,⟨BW h.1,rfl,c⟩,.cons ⟨rfl,h.2⟩ q⟩
def Oo(Rz:List (TE × TE)):TE:=fun σ H Q=>∀ p,H p=none->HX Rz σ (aM H p (.dK [])) λps H2=>H2 p=some (.dK [])/\∃ kvs:List (eT × V),ps=kvs.map (λkv=>(kV kv.1,kv.2))/\kvs.length<=15/\Q (.ref p) (aM H2 p (.dK (wY [] kvs)))
theorem RB{X:Cx}{AY:List (Option Expr)}{zN:List Expr}{Rz:List (TE × TE)}(h:PPs X pos AY zN Rz)(NS:AY.all (·.isSome)=true)(hl:AY.length=zN.length)(h0:AY≠[])
  (h15:AY.length<=15):PE X (.Dict AY zN pos) (Oo Rz):=by
 intro ao s σ H Q I q;have hn:=I.hok.fresh (fH s.heap.objs.size);have I1:=I.laid (a:=s.heap.objs.size) (o:=.dK []) (h':=s.heap.push { cls:=.type "dict",data:=.dict #[] }) (t':=s.toks) (λ_ _ q=>Heap.get?_push_of_some _ q) (fH _) (E8 s.heap I.big);refine wpAny_Dict_walk (knd:=fQ X.prog X.w) NS hl h0 h15 (c9 (h ao _ σ _ _ I1 (q _ hn)) λws s2 G7=>?_);obtain⟨ps,H2,I2,ya,e,kvs,ep,lk,q2⟩:=G7;subst ep;obtain⟨rs,c,rk⟩:=zO (P:=X.prog) (w:=X.w) ya;obtain⟨z,hd,vs0,r0,dd⟩:=Om I2.hok e;cases r0;refine⟨rs,c,dd,λh' QB hs=>⟨.ref s.heap.objs.size,_,?_,rfl,q2⟩⟩
 have hz:(wY [] kvs).length<=sizeLine:=by
  have h1:=tU kvs [];rw[qQ]at h1;rw[sizeLine_eq];lia
 have he:∃ q,h'.get? s.heap.objs.size=some q:=let ⟨q,P,hq,_⟩:=QB;⟨q,hq⟩;exact yT I2 (by rw[e];exact True.intro) hs he (HW hz hd (rk.merge .nil) QB)
structure M2(X:Cx)(o:Expr)(m:Str)(lU:Pos)(e f:Expr)(qX:Pos):Prop where
 zt:attributeBase o m X.env (eval o X.env)=eval o X.env
 few:((backTo qX (starEach [e,f] X.env)).all (λx=>!x.1)&&(backToKw qX (keywordEach [] X.env)).all (λx=>x.1.isSome)
  && decide (([e,f]:List Expr).length+([]:List Keyword).length+(if ([]:List Keyword).isEmpty then 0 else 1)<30))=true
 line:(lU.endLine == qX.line)=true
 trees:backTo qX (starEach [e,f] X.env)=[(false,eval e X.env),(false,eval f X.env)]
def IsD(H:Hp)(a:Addr):Prop:=(∃ kvs,Rd H a (.dK kvs))\/∃ kvs,Rd H a (.dT kvs)
theorem Wf{X:Cx}{σ:St}{H:Hp}{s:Shared}{a:Addr}(I:Inv X ao σ H s)(d:IsD H a) :
  s.TypeIs (.ref a) "dict"/\(∀ b,Value.ref a=.ref b->∃ ob,s.heap.get? b=some ob/\ob.dict=none)/\(a == sysModules)=false:=by
 rcases d with ⟨kvs,e⟩|⟨kvs,e⟩
 ·obtain⟨_,hd,vs,_,dd⟩:=E5 I.hok e;refine⟨dd.typeIs,λb q=>?_,hd⟩;cases q;obtain⟨ob,_,_,h1,h2,_⟩:=dd;exact⟨ob,h1,h2.2.1⟩
 ·obtain⟨_,hd,xs,_,dd⟩:=E6 I.hok e;refine⟨dd.typeIs,λb q=>?_,hd⟩;cases q;obtain⟨ob,_,_,h1,h2,_⟩:=dd;exact⟨ob,h1,h2.2.1⟩
end L2
namespace cX
open Spec Rows L2
def jE(X:Cx)(N:List Str)(scope:Scope)(cl:List (Str × Addr))(C:Addr)(s₀:Shared)(H₀:Hp)(ex:List Addr)(pn:List (Addr × Obj)):Cx where
 prog:=X.prog
 w:=X.w
 K:=X.K
 mg:=X.mg
 zt:=X.zt
 A:=X.A
 N:=N
 s₀:=s₀
 H₀:=H₀
 env:=compEnvC scope cl C X.env
 zn:=X.stack
 stack:=X.stack
 ex:=ex
 fn:=λ_=>false
 calm:=X.calm
 pn:=pn
 xe:=λ_ _=>False
structure BZ(X:Cx)(N:List Str)(scope:Scope)(cl:List (Str × Addr))(jx:List (Option Nat)):Prop where
 kind:scope.kind=.function
 cell:∀ x∈scope.names,x.2≠.cell
 names:∀ x∈scope.names,x.2=.local->scope.names.lookup x.1=some .local
 clos:closureFor scope X.env=pure cl
 sub:∀ x c,cl.lookup x=some c->X.env.cells.lookup x=some c
 has:∀ x,((relabel scope X.env).names.lookup x=some .cell\/(relabel scope X.env).names.lookup x=some .free)->∃ c,cl.lookup x=some c
 len:jx.length=N.length
 free:∀ (i j:Nat) (x:Str),jx[i]?=some (some j)->N[i]?=some x->X.N[j]?=some x/\X.env.scope.names.lookup x=some .cell/\(relabel scope X.env).names.lookup x=some .cell
def uK(jx:List (Option Nat))(σ:L2.St):L2.St:=jx.map λo=>o.bind λj=>(σ[j]?).join
section
variable {X:Cx} {N:List Str} {scope:Scope} {cl:List (Str × Addr)} {jx:List (Option Nat)}
theorem yb{σ:L2.St}{H:Hp}{s:Shared}{fp:List Addr}{h₁:Heap}{t:Nat}(cs:BZ X N scope cl jx)(I:Inv X ao σ H s)(hf:∀ b∈fp,qF X ao H b)(tN:∀ b∈fp,b<s.heap.objs.size)
  (MU:h₁.Ns s.heap.objs.size λ_=>none) (hk:∀ b o,s.heap.get? b=some o->h₁.get? b=some o) :
  Inv (jE X N scope cl s.heap.objs.size s H fp (X.pn++ao)) [] (uK jx σ) H { s with heap:=h₁,toks:=t }:=by
 have sub:∀ {x c},(jE X N scope cl s.heap.objs.size s H fp (X.pn++ao)).env.cells.lookup x=some c->X.env.cells.lookup x=some c:=λ{x c} e=>cs.sub x c e
 refine⟨⟨I.ok.mod,cs.kind,I.ok.glob,I.ok.blt,fH _,λx y c e e'=>I.ok.inj x y c (sub e) (sub e'),λx hx=>cs.has x hx,λx c z _=>(by cases z),I.ok.hd,I.ok.frames,.inl rfl,λb hb=>⟨Nat.ne_of_lt (tN b hb),λx c e=>(hf b hb).2.2.2.2.1 x c (sub e)⟩,I.bs,gR I.ok.T3 I.sz,λb o e hb=>?_,λb hb z=>?_,I.stack,I.JD⟩,
  rfl,I.bare,Un.kept hk,⟨_,MU,λi x v e1 e2 _=>?_⟩,λx c e=>?_,I.hok.fresh (fH _),λx c e=>I.tL x c (sub e),λp hp=>?_,I.hok.kept hk,by unfold uK;rw[cz];exact cs.len⟩
 ·rcases (hf b hb).2.2.2.1 with z|z
  ·exact I.ok.Ng b o e z
  ·exact absurd (qN (Heap.lt_size (I.ok.bs b o e).1) z) (Nat.lt_irrefl _)
 ·rcases List.mem_cons.mp (I.wI b z) with e|e
  ·exact (hf b hb).2.1 e
  ·exact (hf b hb).2.2.1 e
 ·unfold uK at e2;rw[fP]at e2
  cases ej:jx[i]? with
  | none=>rw[ej]at e2;cases e2
  | some o =>
   rw[ej]at e2
   cases o with
   | none=>cases e2
   | some j =>
    have e3:σ[j]?=some (some v):=by
     have z:((σ[j]?).join)=some v:=qP e2
     cases hs:σ[j]? with
     | none=>rw[hs]at z;cases z
     | some q=>rw[hs]at z;exact congrArg some z
    obtain⟨f1,f2,f3⟩:=cs.free i j x ej e1;obtain⟨m,hn,hl⟩:=I.loc;obtain⟨u,ru,look⟩:=hl j x v f1 e3 (.inr (.inl f2));exists u,ru;rcases look with ⟨k,_⟩|⟨_,c,hc,o,ho,hd⟩
    ·have k':X.env.scope.names.lookup x=some .local:=k;rw[f2]at k';cases k'
    ·obtain⟨c',Yx⟩:=cs.has x (.inl f3);have z:=cs.sub x c' Yx;rw[hc]at z;cases z;exact .inr ⟨.inl f3,c,Yx,o,hk _ _ ho,hd⟩
 ·obtain⟨v,o,ho,hd⟩:=I.cell x c (sub e);exact⟨v,o,hk _ _ ho,hd⟩
 ·have MX:p∈X.pn++ao:=by
   have z:p∈(X.pn++ao)++[]:=hp;simpa using z
  obtain⟨e,n,nl,nf,d⟩:=I.pin p MX;refine⟨hk _ _ e,n,jS (Heap.lt_size e),λz=>?_,d⟩;rcases List.mem_cons.mp (I.wI p.1 z) with e|e
  ·exact nl e
  ·exact nf e
theorem wZ{σ σ':L2.St}{H H':Hp}{s s':Shared}{fp:List Addr}(I:Inv X ao σ H s)(hf:∀ b∈fp,qF X ao H b)(J:Inv (jE X N scope cl s.heap.objs.size s H fp (X.pn++ao)) [] σ' H' s'):Inv X ao σ H' s' :=
 I.Yy (ch:=fp) J.os J.zt J.hok J.bare λb hb=>⟨(hf b hb).2.2.2.1,(hf b hb).2.1,(hf b hb).2.2.2.2.1,(hf b hb).2.2.2.2.2⟩
theorem w9{σ σ2:L2.St}{H H':Hp}{s s':Shared}{h':Heap}(I:Inv X ao σ H s)(I4:Inv X ao σ2 H' s')(JF:H' s.heap.objs.size=none)(hs:Heap.SameBut s.heap.objs.size s'.heap h'):Inv X ao σ2 H' { s' with heap:=h' }:=by
 refine I4.turned (t':=s'.toks) (it:=s.heap.objs.size) (λb o hb e=>hs.extBut _ _ hb e) JF (Nat.ne_of_gt I.lt) (.inr I.sz) (λx c e z=>?_) λp hp z=>?_
 ·obtain⟨v,o,ho,_⟩:=I.cell x c e;exact absurd (Heap.lt_size ho) (by rw[z];exact Nat.lt_irrefl _)
 ·exact absurd (Heap.lt_size (I.pin p hp).1) (by rw[z];exact Nat.lt_irrefl _)
def yU(J:It)(acc:Addr)(g:TG)(tt:TT)(te:TE)(σ0:L2.St)(H:Hp)(Q:VK):Prop :=
 ∃ W:Nat->Nat->L2.St->Hp->Prop,(∃ m,W 0 m σ0 H)/\∀ i m σ H,W i m σ H->
  (J.stop i H/\Q (.ref acc) H)\/(J.go i H/\∃ Nx:L2.St->Hp->Prop,(∀ σ' H',Nx σ' H'->∃ m',m'<m/\W (i+1) m' σ' H')/\∀ x H',J.Qx i H x H'->g x σ H' fun σ2 H2=>tt σ2 H2 λb H3 =>
   if b=true then te σ2 H3 λv H4=>∃ xs,H4 acc=some (.lst xs)/\xs.length<sizeLine/\Nx σ2 (aM H4 acc (.lst (xs++[v]))) else Nx σ2 H3)
def xg(jx:List (Option Nat))(wi:TI)(g:TG)(tt:TT)(te:TE):TE:=fun σ H Q=>wi σ H λJ H1=>∀ acc,H1 acc=none->yU J acc g tt te (uK jx σ) (aM H1 acc (.lst [])) Q
theorem B0{iter:Expr}{wi:TI}{g:TG}{tt:TT}{te:TE}(cs:BZ X N scope cl jx)(hc:X.calm=true)(hi:PI X tg iter wi)
  (hg:∀ C s₀ H₀ ex pn,PG (jE X N scope cl C s₀ H₀ ex pn) tg g) (ht:∀ C s₀ H₀ ex pn,Lr (jE X N scope cl C s₀ H₀ ex pn) jT tt) (he:∀ C s₀ H₀ ex pn,PE (jE X N scope cl C s₀ H₀ ex pn) kg te)
  (hs:∀ x,foldedSetIterable iter X.env x=pure x) {use:Option (Value->Sem Unit)} {Q':Value->Shared->Prop} {Q:VK} {ao:List (Addr × Obj)} {s:Shared} {σ:L2.St} {H:Hp} (I:Inv X ao σ H s) (h:xg jx wi g tt te σ H Q)
  (jN:∀ (s3:Shared) (H3:Hp) (fp:List Addr) (acc:Addr) (σ6:L2.St) (H6:Hp) (s7:Shared),Inv X ao σ H3 s3->(∀ b∈fp,qF X ao H3 b)->Inv (jE X N scope cl s3.heap.objs.size s3 H3 fp (X.pn++ao)) [] σ6 H6 s7->Q (.ref acc) H6->
   compPost (model X.prog X.w) X.A X.xe use Q' (.ref acc) s3.heap.objs.size (.ok .next) s7) :
  wpAny (model X.prog X.w) X.A (comprehension (.ListComp kg [⟨tg,iter,jT,0⟩] scope pos) scope X.env iU (newList []) false (eval iter X.env) use) Q' X.xe s:=by
 refine wpAny_comprehension_free (use:=use) rfl hs cs.clos cs.kind cs.names (c9 (hi ao s σ H _ I h) λv s1 h1=>c9 h1 λYI s2 h2=>?_);obtain⟨it,fp,tn,J,H2,e,I2,T,st2,f2,q⟩:=h2;subst e;refine wpAny_newObj_type (hd:=by size_fits) ?_;have cT:H2 s2.heap.objs.size=none:=I2.hok.fresh (fH _);have I3:Inv X ao σ (aM H2 s2.heap.objs.size (.lst [])) { s2 with heap:=s2.heap.push { cls:=.type "list",data:=.seq ([]:List Value).toArray },toks:=s2.toks }:=I2.Q3 (ys:=[]) .nil (Nat.zero_le _)
 have Zu:∀ b∈fp,b<s2.heap.objs.size:=λb hb=>by
  obtain⟨o,ho,_⟩:=T.obj _ _ st2 b hb;exact Heap.lt_size ho
 have f3:∀ b∈fp,qF X ao (aM H2 s2.heap.objs.size (.lst [])) b:=λb hb=>⟨by rw[aJ (jS (Zu b hb))];exact (f2 b hb).1,(f2 b hb).2⟩;have k3:∀ b o,s2.heap.get? b=some o->(s2.heap.push { cls:=.type "list",data:=.seq ([]:List Value).toArray }).get? b=some o:=λb o e=>Heap.get?_push_of_some _ e;have q3:=q _ cT;generalize hs3:({ s2 with heap:=s2.heap.push { cls:=.type "list",data:=.seq ([]:List Value).toArray },toks:=s2.toks }:Shared)=s3 at I3;generalize hH3:aM H2 s2.heap.objs.size (.lst [])=H3 at I3 f3 q3;have Zv:s3.heap=s2.heap.push { cls:=.type "list",data:=.seq ([]:List Value).toArray }:=by rw[← hs3]
 have Kd:∀ b∈fp,b<s3.heap.objs.size:=λb hb=>by rw[Zv,Heap.size_push];exact Nat.lt_succ_of_lt (Zu b hb)
 have st3:tn 0 s3.heap:=T.keep _ _ _ st2 λb _ o e=>by rw[Zv];exact k3 b o e
 show wpAny _ _ _ _ _ s3;refine wpAny_newFunctionEnv cs.cell (λy hy=>by simp at hy) (λh₁ MU RC=>?_) cs.kind;have kh:∀ b o,s3.heap.get? b=some o->h₁.get? b=some o:=λb o e=>RC.extBut _ _ (jS (Heap.lt_size e)) (Heap.get?_push_of_some _ e);have J0:Inv (jE X N scope cl s3.heap.objs.size s3 H3 fp (X.pn++ao)) [] (uK jx σ) H3 { s3 with heap:=h₁,toks:=s3.toks+([]:List (Str × Value)).length }:=yb cs I3 f3 Kd MU kh;have Zw:tn 0 h₁:=T.keep _ _ _ st3 λb _ o e=>kh b o e;obtain⟨W,⟨m0,w0⟩,pF⟩:=q3
 have ue:∀ {H':Hp},(∀ b∈fp,H' b=none)->∀ b∈fp,qF (jE X N scope cl s3.heap.objs.size s3 H3 fp (X.pn++ao)) [] H' b:=λhn b hb=>by
  refine⟨hn b hb,jS (Kd b hb),λz=>?_,.inl hb,λx c e=>(f3 b hb).2.2.2.2.1 x c (cs.sub x c e),λp hp=>?_⟩
  ·rcases List.mem_cons.mp (I3.wI b z) with e|e
   ·exact (f3 b hb).2.1 e
   ·exact (f3 b hb).2.2.1 e
  ·have MX:p∈X.pn++ao:=by
    have z:p∈(X.pn++ao)++[]:=hp;simpa using z
   exact (f3 b hb).2.2.2.2.2 p MX
 have loop:∀ s5:Shared,s5={ s3 with heap:=h₁,toks:=s3.toks+([]:List (Str × Value)).length }->codeAny (model X.prog X.w) X.A (.compLoop (.ListComp kg [⟨tg,iter,jT,0⟩] scope pos) 0 (.ref it) (.ref s2.heap.objs.size) (jE X N scope cl s3.heap.objs.size s3 H3 fp (X.pn++ao)).env)
   (compPost (model X.prog X.w) X.A X.xe use Q' (.ref s2.heap.objs.size) s3.heap.objs.size) s5:=by
  rintro s5 rfl;refine Lq (λn s'=>∃ i σ' H',Inv (jE X N scope cl s3.heap.objs.size s3 H3 fp (X.pn++ao)) [] σ' H' s'/\tn i s'.heap/\(∀ b∈fp,H' b=none)/\W i n σ' H') ?_ m0 ⟨0,_,H3,J0,Zw,λb hb=>(f3 b hb).1,w0⟩;rintro n s6 ⟨i,σ6,H6,I6,Ug,EX,w6⟩;rcases pF i n σ6 H6 w6 with ⟨stop,qn⟩|⟨go,Nx,hN,step⟩
  ·refine c9 (T.done (jE X N scope cl s3.heap.objs.size s3 H3 fp (X.pn++ao)) rfl rfl rfl hc i [] s6 σ6 H6 _ I6 (ue EX) Ug stop) λr s7 G4=>?_;obtain⟨hr,I7⟩:=G4;subst hr;exact jN s3 H3 fp _ σ6 H6 s7 I3 f3 I7 qn
  ·refine c9 (T.item (jE X N scope cl s3.heap.objs.size s3 H3 fp (X.pn++ao)) rfl rfl rfl hc i [] s6 σ6 H6 _ I6 (ue EX) Ug go) λr s7 G5=>?_;obtain⟨u,hr,h7⟩:=G5;subst hr;refine c9 h7 λ_ s8 G7=>?_;obtain⟨x,H8,I8,r8,y8,Oh,C7⟩:=G7;have Zp:=I8.pinned (ue C7) (T.obj _ _ Oh);refine c9 (hg _ _ _ _ _ _ s8 σ6 H8 x u _ Zp r8 (step x H8 y8)) λ_ s9 G6=>?_;obtain⟨σ9,H9,I9,q9⟩:=G6;refine c9 (ht _ _ _ _ _ _ s9 σ9 H9 _ I9 q9) λok s10 AR=>?_;obtain⟨MV,Uh,BN⟩:=AR
   have again:∀ {σ7:L2.St} {H7:Hp} {wA:Shared},Inv (jE X N scope cl s3.heap.objs.size s3 H3 fp (X.pn++ao)) ([]++ud fp s8.heap) σ7 H7 wA->Nx σ7 H7->∃ m,m<n/\∃ i σ' H',Inv (jE X N scope cl s3.heap.objs.size s3 H3 fp (X.pn++ao)) [] σ' H' wA/\tn i wA.heap/\(∀ b∈fp,H' b=none)/\W i m σ' H':=λ{σ7 H7 wA} I7 n7=>by
    obtain⟨m',hm,w7⟩:=hN σ7 H7 n7;refine⟨m',hm,i+1,σ7,H7,I7.oO,T.keep _ _ _ Oh λb hb o e=>(I7.pin (b,o) (oN _ (oN _ (gS hb e)))).1,λb hb=>?_,w7⟩;obtain⟨o,e,d⟩:=T.obj _ _ Oh b hb;exact (I7.pin (b,o) (oN _ (oN _ (gS hb e)))).2.1
   cases ok with
   | false =>
    rw[if_neg gf]at BN;exact again Uh BN
   | true =>
    rw[if_pos rfl]at BN;refine c9 (he _ _ _ _ _ _ s10 σ9 MV _ Uh BN) λv wA EF=>?_;obtain⟨y,H11,I11,r11,xs,hx,hz,n11⟩:=EF;refine c9 (bU _ wA σ9 H11 (.ref s2.heap.objs.size) [y] (.ref s2.heap.objs.size) [v] (λ_ H'=>Nx σ9 H') I11 rfl (.cons r11 .nil) ⟨_,xs,y,V,hx,hz,n11⟩) λ_ jU CM=>?_;obtain⟨_,Zq,I12,_,VX⟩:=CM;exact again I12 VX
 exact codeAny_compStart_list (loop _ rfl) (T.self _ _ _ _ _ Zw (loop _ rfl))
theorem Oq{iter:Expr}{wi:TI}{g:TG}{tt:TT}{te:TE}(cs:BZ X N scope cl jx)(hc:X.calm=true)(hi:PI X tg iter wi)
  (hg:∀ C s₀ H₀ ex pn,PG (jE X N scope cl C s₀ H₀ ex pn) tg g) (ht:∀ C s₀ H₀ ex pn,Lr (jE X N scope cl C s₀ H₀ ex pn) jT tt) (he:∀ C s₀ H₀ ex pn,PE (jE X N scope cl C s₀ H₀ ex pn) kg te)
  (hs:∀ x,foldedSetIterable iter X.env x=pure x:=by intro _;rfl):PE X (.ListComp kg [⟨tg,iter,jT,0⟩] scope pos) (xg jx wi g tt te):=by
 intro ao s σ H Q I h;rw[eval_ListComp];refine B0 (use:=none) cs hc hi hg ht he hs I h λs3 H3 fp acc σ6 H6 s7 I3 f3 I7 qn=>?_;obtain⟨m,hm,_⟩:=I7.loc;exact⟨m,hm,λh' RC=>⟨.ref acc,H6,w9 I3 (wZ I3 f3 I7) I7.free RC,rfl,qn⟩⟩
theorem RD{iter:Expr}{Ot:Pos}{wi:TI}{g:TG}{tt:TT}{te:TE}{i:Nat}{x:Str}(cs:BZ X N scope cl jx)(hc:X.calm=true)(hN:X.N.Nodup)(hix:X.N[i]?=some x)(hx:X.env.scope.names.lookup x=some .local)(hi:PI X tg iter wi)
  (hg:∀ C s₀ H₀ ex pn,PG (jE X N scope cl C s₀ H₀ ex pn) tg g) (ht:∀ C s₀ H₀ ex pn,Lr (jE X N scope cl C s₀ H₀ ex pn) jT tt) (he:∀ C s₀ H₀ ex pn,PE (jE X N scope cl C s₀ H₀ ex pn) kg te)
  (hsw:swapsWith (.ListComp kg [⟨tg,iter,jT,0⟩] scope pos) (some (.Name x iU)) Ot.line X.env=pure true:=by rfl)
  (hs:∀ x,foldedSetIterable iter X.env x=pure x:=by intro _;rfl):PS X (.Assign [.Name x iU] (.ListComp kg [⟨tg,iter,jT,0⟩] scope pos) Ot) (Nk (xg jx wi g tt te) (tM i)):=by
 intro ao s σ H D I h;rw[exec_Assign_Name_used _ _ _ _ hsw];refine wpAny_bind (wpAny_standAt (wpAny_bind ?_));show wpAny _ X.A (do let _ ← comprehension (.ListComp kg [⟨tg,iter,jT,0⟩] scope pos) scope X.env _ (newList []) false (eval iter X.env) (some (assign (.Name x iU) X.env))) _ _ s;have h':xg jx wi g tt te σ H (λv H'=>tM i v σ H' D.nx):=h;refine wpAny_bind (c9 (B0 (use:=some (assign (.Name x iU) X.env)) (Q':=λ_ s'=>∃ σ' H',Inv X ao σ' H' s'/\D.nx σ' H') cs hc hi hg ht he hs I h' λs3 H3 fp acc σ6 H6 s7 I3 f3 I7 qn=>?_) λ_ s' q=>?_)
 ·have I4:=wZ I3 f3 I7;obtain⟨m,hm,_⟩:=I7.loc;refine wpAny_assign_Name (BB I4 hN hix (.inl hx) (v:=.ref acc) rfl (λs8 I8 ⟨a,RC,ha⟩=>?_) (.inr hx))
  have na:s3.heap.objs.size≠a:=by
   rcases ha with rfl|ha
   ·exact Nat.ne_of_gt I3.lt
   ·intro z;obtain⟨v,o,ho,_⟩:=I3.cell x a ha;exact absurd (Heap.lt_size ho) (by rw[z];exact Nat.lt_irrefl _)
  refine⟨m,hm.at' λo e=>RC.extBut _ o na e,λh' hs'=>⟨_,H6,w9 I3 I8 I7.free hs',qn⟩⟩
 ·exact wpAny_pure (wpAny_pure q)
theorem gE{K:Frag}{a:Addr}{xs:List V}{g:TG}{tt:TT}{te:TE}{σ0:L2.St}{H:Hp}{Q:VK}(Pv:Nat->L2.St->Hp->Prop)(h0:Pv 0 σ0 H)(hl:∀ i σ H,i<=xs.length->Pv i σ H->bI K H a xs)
  (hs:∀ i x σ H,xs[i]?=some x->Pv i σ H->g x σ H fun σ2 H2=>tt σ2 H2 λb H3=>if b=true then te σ2 H3 λv H4=>∃ ys,H4 acc=some (.lst ys)/\ys.length<sizeLine/\Pv (i+1) σ2 (aM H4 acc (.lst (ys++[v]))) else Pv (i+1) σ2 H3)
  (hd:∀ σ H,Pv xs.length σ H->Q (.ref acc) H):yU (Qy K a) acc g tt te σ0 H Q:=by
 refine⟨λi m σ H=>m=xs.length-i/\i<=xs.length/\Pv i σ H,⟨xs.length,by simp,Nat.zero_le _,h0⟩,?_⟩;rintro i m σ H ⟨rfl,hi,p⟩;have q:=hl i σ H hi p;by_cases tN:i<xs.length
 ·refine .inr ⟨⟨xs,xs[i],q,by simp[tN]⟩,Pv (i+1),fun σ' H' p'=>⟨xs.length-(i+1),Q,rfl,tN,p'⟩,λx H' y=>?_⟩;obtain⟨e,y⟩:=y;subst e;exact hs i x σ _ (y xs q) p
 ·have e:i=xs.length:=by lia
  subst e;exact .inl ⟨⟨xs,q,fH _⟩,hd σ H p⟩
theorem rF{lo:Int}{k:Nat}{g:TG}{tt:TT}{te:TE}{σ0:L2.St}{H:Hp}{Q:VK}(Pv:Nat->L2.St->Hp->Prop)(h0:Pv 0 σ0 H)
  (hs:∀ i σ H,i<k->Pv i σ H->g (.int (lo+i)) σ H fun σ2 H2=>tt σ2 H2 λb H3=>if b=true then te σ2 H3 λv H4=>∃ ys,H4 acc=some (.lst ys)/\ys.length<sizeLine/\Pv (i+1) σ2 (aM H4 acc (.lst (ys++[v]))) else Pv (i+1) σ2 H3)
  (hd:∀ σ H,Pv k σ H->Q (.ref acc) H):yU (Vt lo k) acc g tt te σ0 H Q:=by
 refine⟨λi m σ H=>m=k-i/\i<=k/\Pv i σ H,⟨k,by simp,Nat.zero_le _,h0⟩,?_⟩;rintro i m σ H ⟨rfl,hi,p⟩;by_cases tN:i<k
 ·refine .inr ⟨tN,Pv (i+1),fun σ' H' p'=>⟨k-(i+1),Q,rfl,tN,p'⟩,λx H' y=>?_⟩;obtain⟨e,y⟩:=y;subst e y;exact hs i σ _ tN p
 ·have e:i=k:=by lia
  subst e;exact .inl ⟨Nat.le_refl _,hd σ H p⟩
end
section
variable {X:Cx} {N:List Str} {scope:Scope} {cl:List (Str × Addr)} {C:Addr} {s₀:Shared} {H₀:Hp} {ex:List Addr} {pn:List (Addr × Obj)}
theorem yV{es:List Expr}{k:Nat}{t:Vo}{n:Nat}(hc:X.calm=true)(h:YF (jE X N scope cl C s₀ H₀ ex pn) es t)
  (hn:(assignEach es (jE X N scope cl C s₀ H₀ ex pn).env).length=n:=by rfl) (CN:(assignEach es (jE X N scope cl C s₀ H₀ ex pn).env).findIdx? (·.1)=none:=by rfl):PG (jE X N scope cl C s₀ H₀ ex pn) (.Tuple es k pos) (Vq X.K n t):=kY (X:=jE X N scope cl C s₀ H₀ ex pn) hc h hn CN
theorem Ou{l:Expr}{tl:TE}(hl:PE (jE X N scope cl C s₀ H₀ ex pn) l tl):PI (jE X N scope cl C s₀ H₀ ex pn) tg l (T6 X.K tl):=cF hl
theorem Ke:XS (jE X N scope cl C s₀ H₀ ex pn) (Y0 X.K):=aX
theorem HY:uf (jE X N scope cl C s₀ H₀ ex pn) (compareOp .NotIn) (rIn X.K true):=vq
end
theorem Dd{X:Cx}:jV X (.type "range") (λxs H Q=>∃ j:Int,xs=[.int j]/\∀ p,H p=none->Q (.ref p) (aM H p (.EA 0 j))):=by
 intro ao s σ H xs us Q I r h;obtain⟨j,rfl,q⟩:=h;obtain⟨u1,rfl,⟨t,rfl⟩⟩:=r.one;refine call_range_1 ⟨.ref s.heap.objs.size,_,I.laid (o:=.EA 0 j) (λb o e=>Heap.get?_push_of_some _ e) (fH _) ⟨K,Heap.get?_push_size _ rfl⟩,rfl,q _ (I.hok.fresh (fH _))⟩
theorem xh{scope:Scope}{env:Env}(h:∀ p∈scope.names,p.2=.free->∃ c,env.cells.lookup p.1=some c) :
  ∃ cl,closureFor scope env=pure cl/\(∀ x c,cl.lookup x=some c->env.cells.lookup x=some c)/\(∀ p∈scope.names,p.2=.free->∃ c,cl.lookup p.1=some c):=by
 unfold closureFor
 have key:∀ (l:List (Str × NameKind)) (cs:List (Str × Addr)),(∀ p∈l,p.2=.free->∃ c,env.cells.lookup p.1=some c)->(∀ x c,cs.lookup x=some c->env.cells.lookup x=some c)->
   ∃ cl,(forIn l cs (λp r=>if (p.2 == NameKind.free)=true then do let c ← cellOf env p.1;pure (ForInStep.yield ((p.1,c)::r)) else pure (ForInStep.yield r)):Sem (List (Str × Addr)))=pure cl/\(∀ x c,cl.lookup x=some c->env.cells.lookup x=some c)/\(∀ p∈l,p.2=.free->∃ c,cl.lookup p.1=some c)/\(∀ x c,cs.lookup x=some c->∃ c,cl.lookup x=some c):=by
  intro l
  induction l with
  | nil=>intro cs _ Q0;exact⟨cs,rfl,Q0,(λp hp=>by cases hp),λx c e=>⟨c,e⟩⟩
  | cons p l ih =>
   intro cs hl Q0;rw[List.forIn_cons];by_cases hp:p.2=.free
   ·obtain⟨c,hc⟩:=hl p List.mem_cons_self hp;have e1:(p.2 == NameKind.free)=true:=by rw[hp];rfl
    have e2:cellOf env p.1=pure c:=by
     unfold cellOf;rw[hc]
    rw[if_pos e1,e2];simp only[pure_bind]
    obtain⟨cl,h1,h2,h3,h4⟩:=ih ((p.1,c)::cs) (λq hq=>hl q (mE _ hq)) (λx d e=>by
     rw[List.lookup_cons]at e
     cases hx:x == p.1 with
     | true =>
      rw[hx]at e;cases e;rw[eq_of_beq hx];exact hc
     | false =>
      rw[hx]at e
      exact Q0 x d e)
    refine⟨cl,h1,h2,λq hq hf=>?_,λx d e=>?_⟩
    ·rcases List.mem_cons.mp hq with rfl|hq
     ·exact h4 q.1 c (by rw[List.lookup_cons];simp)
     ·exact h3 q hq hf
    ·cases hx:x == p.1 with
     | true=>exact h4 x c (by rw[List.lookup_cons,hx])
     | false=>exact h4 x d (by rw[List.lookup_cons,hx];exact e)
   ·have e1:¬ (p.2 == NameKind.free)=true:=λz=>hp (eq_of_beq z);rw[if_neg e1];simp only[pure_bind];obtain⟨cl,h1,h2,h3,h4⟩:=ih cs (λq hq=>hl q (mE _ hq)) Q0;refine⟨cl,h1,h2,λq hq hf=>?_,h4⟩;rcases List.mem_cons.mp hq with rfl|hq
    ·exact absurd hf hp
    ·exact h3 q hq hf
 obtain⟨cl,h1,h2,h3,_⟩:=key scope.names [] h (λx c e=>by cases e);refine⟨cl,?_,h2,h3⟩;rw[← h1];simp only[bind_pure]
theorem mZ{env:Env}:∀ {names:List (Str × NameKind)} {x:Str} {k:NameKind},names.lookup x=some k->
  (names.map λ(n,k)=>if (k == NameKind.free&&env.scope.kind == .function&&env.kindOf n == some .cell) then (n,NameKind.cell) else (n,k)).lookup x=some (if (k == NameKind.free&&env.scope.kind == .function&&env.kindOf x == some .cell) then NameKind.cell else k)
 | [],_,_,h=>by cases h
 | (n,k')::r,x,k,h=>by
  rw[jv];by_cases hx:(x == n)=true
  ·have e:x=n:=eq_of_beq hx;subst e;rw[List.lookup_cons,hx]at h;cases h;by_cases hc:(k' == NameKind.free&&env.scope.kind == .function&&env.kindOf x == some .cell)=true
   ·show List.lookup x ((if (k' == NameKind.free&&env.scope.kind == .function&&env.kindOf x == some .cell)=true then (x,NameKind.cell) else (x,k'))::_)=_;rw[if_pos hc,if_pos hc,List.lookup_cons,hx]
   ·show List.lookup x ((if (k' == NameKind.free&&env.scope.kind == .function&&env.kindOf x == some .cell)=true then (x,NameKind.cell) else (x,k'))::_)=_;rw[if_neg hc,if_neg hc,List.lookup_cons,hx]
  ·have hf:(x == n)=false:=by simpa using hx
   rw[List.lookup_cons,hf]at h;have ih:=mZ (env:=env) h;show List.lookup x ((if (k' == NameKind.free&&env.scope.kind == .function&&env.kindOf n == some .cell)=true then (n,NameKind.cell) else (n,k'))::_)=_;by_cases hc:(k' == NameKind.free&&env.scope.kind == .function&&env.kindOf n == some .cell)=true
   ·rw[if_pos hc,List.lookup_cons,hf];exact ih
   ·rw[if_neg hc,List.lookup_cons,hf];exact ih
theorem lM{env:Env}:∀ {names:List (Str × NameKind)} {x:Str},names.lookup x=none->
  (names.map λ(n,k)=>if (k == NameKind.free&&env.scope.kind == .function&&env.kindOf n == some .cell) then (n,NameKind.cell) else (n,k)).lookup x=none
 | [],_,_=>rfl
 | (n,k')::r,x,h=>by
  rw[jv]
  have hf:(x == n)=false:=by
   cases hx:x == n with
   | false=>rfl
   | true=>rw[List.lookup_cons,hx]at h;cases h
  rw[List.lookup_cons,hf]at h;have ih:=lM (env:=env) h;show List.lookup x ((if (k' == NameKind.free&&env.scope.kind == .function&&env.kindOf n == some .cell)=true then (n,NameKind.cell) else (n,k'))::_)=_;by_cases hc:(k' == NameKind.free&&env.scope.kind == .function&&env.kindOf n == some .cell)=true
  ·rw[if_pos hc,List.lookup_cons,hf];exact ih
  ·rw[if_neg hc,List.lookup_cons,hf];exact ih
structure B3(X:Cx)(N:List Str)(scope:Scope)(jx:List (Option Nat)):Prop where
 kind:scope.kind=.function
 cell:∀ x∈scope.names,x.2≠.cell
 names:∀ x∈scope.names,x.2=.local->scope.names.lookup x.1=some .local
 xk:X.env.scope.kind=.function
 fr:∀ x∈scope.names,x.2=.free->X.env.scope.names.lookup x.1=some .cell
 len:jx.length=N.length
 free:∀ (i j:Nat) (x:Str),jx[i]?=some (some j)->N[i]?=some x->X.N[j]?=some x/\scope.names.lookup x=some .free
def Ov(NX N:List Str)(scope:Scope)(jx:List (Option Nat)):Bool:=(jx.zip N).all λp=>match p.1 with
 | none=>true
 | some j=>decide (NX[j]?=some p.2)&&decide (scope.names.lookup p.2=some .free)
theorem nL{X:Cx}{N NX:List Str}{scope sc:Scope}{jx:List (Option Nat)}(e1:X.env.scope=sc)(e2:X.N=NX)(k:scope.kind=.function)(h1:∀ x∈scope.names,x.2≠.cell)(h2:∀ x∈scope.names,x.2=.local->scope.names.lookup x.1=some .local)
  (h3:sc.kind=.function) (h4:∀ x∈scope.names,x.2=.free->sc.names.lookup x.1=some .cell) (h5:jx.length=N.length) (h6:Ov NX N scope jx=true):B3 X N scope jx:=by
 refine⟨k,h1,h2,by rw[e1];exact h3,by rw[e1];exact h4,h5,λi j x a b=>?_⟩;rw[e2];unfold Ov at h6;rw[List.all_eq_true]at h6;have z:=h6 (some j,x) (pA (i:=i) (by rw[List.getElem?_zip_eq_some];exact⟨a,b⟩));simp only[Bool.and_eq_true,decide_eq_true_eq]at z;exact z
section
variable {X:Cx} {N:List Str} {scope:Scope} {jx:List (Option Nat)}
theorem B3.toF{σ:L2.St}{H:Hp}{s:Shared}(cg:B3 X N scope jx)(I:Inv X ao σ H s):∃ cl,BZ X N scope cl jx:=by
 obtain⟨cl,h1,h2,h3⟩:=xh (scope:=scope) (env:=X.env) λp hp hf=>I.ok.has p.1 (.inl (cg.fr p hp hf))
 have ya:∀ x,scope.names.lookup x=some .free->(relabel scope X.env).names.lookup x=some .cell:=λx hx=>by
  have z:=mZ (env:=X.env) hx
  have c:(NameKind.free == NameKind.free&&X.env.scope.kind == .function&&X.env.kindOf x == some .cell)=true:=by
   have q:X.env.kindOf x=some .cell:=cg.fr (x,.free) (PySem.mem_of_lookup hx) rfl;rw[cg.xk,q];rfl
  rw[if_pos c]at z;exact z
 refine⟨cl,cg.kind,cg.cell,cg.names,h1,h2,λx hx=>?_,cg.len,λi j x a b=>?_⟩
 ·cases e:scope.names.lookup x with
  | none =>
   have z:(relabel scope X.env).names.lookup x=none:=lM (env:=X.env) e;rw[z]at hx
   rcases hx with q|q <;> cases q
  | some k =>
   by_cases hk:k=.free
   ·subst hk;exact h3 (x,.free) (PySem.mem_of_lookup e) rfl
   ·have z:(relabel scope X.env).names.lookup x=some (if (k == NameKind.free&&X.env.scope.kind == .function&&X.env.kindOf x == some .cell) then NameKind.cell else k):=mZ (env:=X.env) e
    have c:(k == NameKind.free)=false:=by
     cases q:k == NameKind.free with
     | false=>rfl
     | true=>exact absurd (eq_of_beq q) hk
    rw[c]at z;simp only[Bool.false_and,Bool.false_eq_true,if_false]at z;rw[z]at hx;rcases hx with q|q
    ·cases q;exact absurd rfl (cg.cell (x,.cell) (PySem.mem_of_lookup e))
    ·cases q;exact absurd rfl hk
 ·obtain⟨f1,f2⟩:=cg.free i j x a b;exact⟨f1,cg.fr (x,.free) (PySem.mem_of_lookup f2) rfl,ya x f2⟩
theorem gZ{iter:Expr}{wi:TI}{g:TG}{tt:TT}{te:TE}(cg:B3 X N scope jx)(hc:X.calm=true)(hi:PI X tg iter wi)
  (hg:∀ cl C s₀ H₀ ex pn,PG (jE X N scope cl C s₀ H₀ ex pn) tg g) (ht:∀ cl C s₀ H₀ ex pn,Lr (jE X N scope cl C s₀ H₀ ex pn) jT tt) (he:∀ cl C s₀ H₀ ex pn,PE (jE X N scope cl C s₀ H₀ ex pn) kg te)
  (hs:∀ x,foldedSetIterable iter X.env x=pure x:=by intro _;rfl):PE X (.ListComp kg [⟨tg,iter,jT,0⟩] scope pos) (xg jx wi g tt te):=by
 intro ao s σ H Q I h;obtain⟨cl,cs⟩:=cg.toF I;exact Oq cs hc hi (hg cl) (ht cl) (he cl) hs ao s σ H Q I h
theorem Kf{iter:Expr}{Ot:Pos}{wi:TI}{g:TG}{tt:TT}{te:TE}{i:Nat}{x:Str}(cg:B3 X N scope jx)(hc:X.calm=true)(hN:X.N.Nodup)(hix:X.N[i]?=some x)(hx:X.env.scope.names.lookup x=some .local)(hi:PI X tg iter wi)
  (hg:∀ cl C s₀ H₀ ex pn,PG (jE X N scope cl C s₀ H₀ ex pn) tg g) (ht:∀ cl C s₀ H₀ ex pn,Lr (jE X N scope cl C s₀ H₀ ex pn) jT tt) (he:∀ cl C s₀ H₀ ex pn,PE (jE X N scope cl C s₀ H₀ ex pn) kg te)
  (hsw:swapsWith (.ListComp kg [⟨tg,iter,jT,0⟩] scope pos) (some (.Name x iU)) Ot.line X.env=pure true:=by rfl)
  (hs:∀ x,foldedSetIterable iter X.env x=pure x:=by intro _;rfl):PS X (.Assign [.Name x iU] (.ListComp kg [⟨tg,iter,jT,0⟩] scope pos) Ot) (Nk (xg jx wi g tt te) (tM i)):=by
 intro ao s σ H D I h;obtain⟨cl,cs⟩:=cg.toF I;exact RD cs hc hN hix hx hi (hg cl) (ht cl) (he cl) hsw hs ao s σ H D I h
end
end cX
namespace cX
open Spec Rows L2
section
variable {X:Cx} {N:List Str} {scope:Scope} {cl:List (Str × Addr)} {jx:List (Option Nat)}
def E9(J:It)(acc:Addr)(g:TG)(tt:TT)(HR:TI)(g2:TG)(HS:TT)(te:TE)(σ0:L2.St)(H:Hp)(Q:VK):Prop :=
 ∃ W:Nat->Nat->L2.St->Hp->Prop,(∃ m,W 0 m σ0 H)/\∀ i m σ H,W i m σ H->
  (J.stop i H/\Q (.ref acc) H)\/(J.go i H/\∃ Nx:L2.St->Hp->Prop,(∀ σ' H',Nx σ' H'->∃ m',m'<m/\W (i+1) m' σ' H')/\∀ x H',J.Qx i H x H'->g x σ H' fun σ2 H2=>tt σ2 H2 λb H3 =>
   if b=true then HQ HR acc g2 HS te σ2 H3 Nx else Nx σ2 H3)
def Kg(jx:List (Option Nat))(wi:TI)(g:TG)(tt:TT)(HR:TI)(g2:TG)(HS:TT)(te:TE):TE:=fun σ H Q=>wi σ H λJ H1=>∀ acc,H1 acc=none->E9 J acc g tt HR g2 HS te (uK jx σ) (aM H1 acc (.lst [])) Q
theorem Ia{iter:Expr}{wi HR:TI}{g g2:TG}{tt HS:TT}{te:TE}(cs:BZ X N scope cl jx)(hc:X.calm=true)(hi:PI X tg iter wi)
  (hg:∀ C s₀ H₀ ex pn,PG (jE X N scope cl C s₀ H₀ ex pn) tg g) (ht:∀ C s₀ H₀ ex pn,Lr (jE X N scope cl C s₀ H₀ ex pn) jT tt) (XX:∀ C s₀ H₀ ex pn,PI (jE X N scope cl C s₀ H₀ ex pn) qL dP HR) (hg2:∀ C s₀ H₀ ex pn,PG (jE X N scope cl C s₀ H₀ ex pn) qL g2) (Ib:∀ C s₀ H₀ ex pn,Lr (jE X N scope cl C s₀ H₀ ex pn) jj HS) (he:∀ C s₀ H₀ ex pn,PE (jE X N scope cl C s₀ H₀ ex pn) kg te)
  (hs:∀ x,foldedSetIterable iter X.env x=pure x) (K0:∀ (env:Env) x,foldedSetIterable dP env x=pure x) {use:Option (Value->Sem Unit)} {Q':Value->Shared->Prop} {Q:VK} {ao:List (Addr × Obj)} {s:Shared} {σ:L2.St} {H:Hp} (I:Inv X ao σ H s) (h:Kg jx wi g tt HR g2 HS te σ H Q)
  (jN:∀ (s3:Shared) (H3:Hp) (fp:List Addr) (acc:Addr) (σ6:L2.St) (H6:Hp) (s7:Shared),Inv X ao σ H3 s3->(∀ b∈fp,qF X ao H3 b)->Inv (jE X N scope cl s3.heap.objs.size s3 H3 fp (X.pn++ao)) [] σ6 H6 s7->Q (.ref acc) H6->
   compPost (model X.prog X.w) X.A X.xe use Q' (.ref acc) s3.heap.objs.size (.ok .next) s7) :
  wpAny (model X.prog X.w) X.A (comprehension (.ListComp kg [⟨tg,iter,jT,0⟩,⟨qL,dP,jj,0⟩] scope pos) scope X.env iU (newList []) false (eval iter X.env) use) Q' X.xe s:=by
 refine wpAny_comprehension_free (use:=use) rfl hs cs.clos cs.kind cs.names (c9 (hi ao s σ H _ I h) λv s1 h1=>c9 h1 λYI s2 h2=>?_);obtain⟨it,fp,tn,J,H2,e,I2,T,st2,f2,q⟩:=h2;subst e;refine wpAny_newObj_type (hd:=by size_fits) ?_;have cT:H2 s2.heap.objs.size=none:=I2.hok.fresh (fH _);have I3:Inv X ao σ (aM H2 s2.heap.objs.size (.lst [])) { s2 with heap:=s2.heap.push { cls:=.type "list",data:=.seq ([]:List Value).toArray },toks:=s2.toks }:=I2.Q3 (ys:=[]) .nil (Nat.zero_le _)
 have Zu:∀ b∈fp,b<s2.heap.objs.size:=λb hb=>by
  obtain⟨o,ho,_⟩:=T.obj _ _ st2 b hb;exact Heap.lt_size ho
 have f3:∀ b∈fp,qF X ao (aM H2 s2.heap.objs.size (.lst [])) b:=λb hb=>⟨by rw[aJ (jS (Zu b hb))];exact (f2 b hb).1,(f2 b hb).2⟩;have k3:∀ b o,s2.heap.get? b=some o->(s2.heap.push { cls:=.type "list",data:=.seq ([]:List Value).toArray }).get? b=some o:=λb o e=>Heap.get?_push_of_some _ e;have q3:=q _ cT;generalize hs3:({ s2 with heap:=s2.heap.push { cls:=.type "list",data:=.seq ([]:List Value).toArray },toks:=s2.toks }:Shared)=s3 at I3;generalize hH3:aM H2 s2.heap.objs.size (.lst [])=H3 at I3 f3 q3;have Zv:s3.heap=s2.heap.push { cls:=.type "list",data:=.seq ([]:List Value).toArray }:=by rw[← hs3]
 have Kd:∀ b∈fp,b<s3.heap.objs.size:=λb hb=>by rw[Zv,Heap.size_push];exact Nat.lt_succ_of_lt (Zu b hb)
 have st3:tn 0 s3.heap:=T.keep _ _ _ st2 λb _ o e=>by rw[Zv];exact k3 b o e
 show wpAny _ _ _ _ _ s3;refine wpAny_newFunctionEnv cs.cell (λy hy=>by simp at hy) (λh₁ MU RC=>?_) cs.kind;have kh:∀ b o,s3.heap.get? b=some o->h₁.get? b=some o:=λb o e=>RC.extBut _ _ (jS (Heap.lt_size e)) (Heap.get?_push_of_some _ e);have J0:Inv (jE X N scope cl s3.heap.objs.size s3 H3 fp (X.pn++ao)) [] (uK jx σ) H3 { s3 with heap:=h₁,toks:=s3.toks+([]:List (Str × Value)).length }:=yb cs I3 f3 Kd MU kh;have Zw:tn 0 h₁:=T.keep _ _ _ st3 λb _ o e=>kh b o e;obtain⟨W,⟨m0,w0⟩,pF⟩:=q3
 have ue:∀ {H':Hp},(∀ b∈fp,H' b=none)->∀ b∈fp,qF (jE X N scope cl s3.heap.objs.size s3 H3 fp (X.pn++ao)) [] H' b:=λhn b hb=>by
  refine⟨hn b hb,jS (Kd b hb),λz=>?_,.inl hb,λx c e=>(f3 b hb).2.2.2.2.1 x c (cs.sub x c e),λp hp=>?_⟩
  ·rcases List.mem_cons.mp (I3.wI b z) with e|e
   ·exact (f3 b hb).2.1 e
   ·exact (f3 b hb).2.2.1 e
  ·have MX:p∈X.pn++ao:=by
    have z:p∈(X.pn++ao)++[]:=hp;simpa using z
   exact (f3 b hb).2.2.2.2.2 p MX
 have loop:∀ s5:Shared,s5={ s3 with heap:=h₁,toks:=s3.toks+([]:List (Str × Value)).length }->codeAny (model X.prog X.w) X.A (.compLoop (.ListComp kg [⟨tg,iter,jT,0⟩,⟨qL,dP,jj,0⟩] scope pos) 0 (.ref it) (.ref s2.heap.objs.size) (jE X N scope cl s3.heap.objs.size s3 H3 fp (X.pn++ao)).env)
   (compPost (model X.prog X.w) X.A X.xe use Q' (.ref s2.heap.objs.size) s3.heap.objs.size) s5:=by
  rintro s5 rfl;refine Rt (λn s'=>∃ i σ' H',Inv (jE X N scope cl s3.heap.objs.size s3 H3 fp (X.pn++ao)) [] σ' H' s'/\tn i s'.heap/\(∀ b∈fp,H' b=none)/\W i n σ' H') (K0 _) ?_ m0 ⟨0,_,H3,J0,Zw,λb hb=>(f3 b hb).1,w0⟩;rintro n s6 ⟨i,σ6,H6,I6,Ug,EX,w6⟩;rcases pF i n σ6 H6 w6 with ⟨stop,qn⟩|⟨go,Nx,hN,step⟩
  ·refine c9 (T.done (jE X N scope cl s3.heap.objs.size s3 H3 fp (X.pn++ao)) rfl rfl rfl hc i [] s6 σ6 H6 _ I6 (ue EX) Ug stop) λr s7 G4=>?_;obtain⟨hr,I7⟩:=G4;subst hr;exact jN s3 H3 fp _ σ6 H6 s7 I3 f3 I7 qn
  ·refine c9 (T.item (jE X N scope cl s3.heap.objs.size s3 H3 fp (X.pn++ao)) rfl rfl rfl hc i [] s6 σ6 H6 _ I6 (ue EX) Ug go) λr s7 G5=>?_;obtain⟨u,hr,h7⟩:=G5;subst hr;refine c9 h7 λ_ s8 G7=>?_;obtain⟨x,H8,I8,r8,y8,Oh,C7⟩:=G7;have Zp:=I8.pinned (ue C7) (T.obj _ _ Oh);refine c9 (hg _ _ _ _ _ _ s8 σ6 H8 x u _ Zp r8 (step x H8 y8)) λ_ s9 G6=>?_;obtain⟨σ9,H9,I9,q9⟩:=G6;refine c9 (ht _ _ _ _ _ _ s9 σ9 H9 _ I9 q9) λok s10 AR=>?_;obtain⟨MV,Uh,BN⟩:=AR
   have again:∀ {σ7:L2.St} {H7:Hp} {wA:Shared},Inv (jE X N scope cl s3.heap.objs.size s3 H3 fp (X.pn++ao)) ([]++ud fp s8.heap) σ7 H7 wA->Nx σ7 H7->∃ m,m<n/\∃ i σ' H',Inv (jE X N scope cl s3.heap.objs.size s3 H3 fp (X.pn++ao)) [] σ' H' wA/\tn i wA.heap/\(∀ b∈fp,H' b=none)/\W i m σ' H':=λ{σ7 H7 wA} I7 n7=>by
    obtain⟨m',hm,w7⟩:=hN σ7 H7 n7;refine⟨m',hm,i+1,σ7,H7,I7.oO,T.keep _ _ _ Oh λb hb o e=>(I7.pin (b,o) (oN _ (oN _ (gS hb e)))).1,λb hb=>?_,w7⟩;obtain⟨o,e,d⟩:=T.obj _ _ Oh b hb;exact (I7.pin (b,o) (oN _ (oN _ (gS hb e)))).2.1
   cases ok with
   | false =>
    rw[if_neg gf]at BN;exact again Uh BN
   | true =>
    rw[if_pos rfl]at BN;refine c9 (Ls (Y:=jE X N scope cl s3.heap.objs.size s3 H3 fp (X.pn++ao)) hc rfl (XX _ _ _ _ _) (hg2 _ _ _ _ _) (Ib _ _ _ _ _) (he _ _ _ _ _) Uh BN) λx wA h11=>c9 h11 λZn jU Ud=>codeAny_mono Ud λr ve ⟨hr,σ',H',I13,n13⟩=>⟨hr,again I13 n13⟩
 exact codeAny_compStart_list (loop _ rfl) (T.self _ _ _ _ _ Zw (loop _ rfl))
theorem Ly{iter:Expr}{pos:Pos}{wi HR:TI}{g g2:TG}{tt HS:TT}{te:TE}(cg:B3 X N scope jx)(hc:X.calm=true)(hi:PI X tg iter wi)
  (hg:∀ cl C s₀ H₀ ex pn,PG (jE X N scope cl C s₀ H₀ ex pn) tg g) (ht:∀ cl C s₀ H₀ ex pn,Lr (jE X N scope cl C s₀ H₀ ex pn) jT tt)
  (XX:∀ cl C s₀ H₀ ex pn,PI (jE X N scope cl C s₀ H₀ ex pn) qL dP HR) (hg2:∀ cl C s₀ H₀ ex pn,PG (jE X N scope cl C s₀ H₀ ex pn) qL g2) (Ib:∀ cl C s₀ H₀ ex pn,Lr (jE X N scope cl C s₀ H₀ ex pn) jj HS) (he:∀ cl C s₀ H₀ ex pn,PE (jE X N scope cl C s₀ H₀ ex pn) kg te)
  (hs:∀ x,foldedSetIterable iter X.env x=pure x:=by intro _;rfl) (K0:∀ (env:Env) x,foldedSetIterable dP env x=pure x:=by intro _ _;rfl) :
  PE X (.ListComp kg [⟨tg,iter,jT,0⟩,⟨qL,dP,jj,0⟩] scope pos) (Kg jx wi g tt HR g2 HS te):=by
 intro ao s σ H Q I h;obtain⟨cl,cs⟩:=cg.toF I;rw[eval_ListComp];refine Ia (use:=none) cs hc hi (hg cl) (ht cl) (XX cl) (hg2 cl) (Ib cl) (he cl) hs K0 I h λs3 H3 fp acc σ6 H6 s7 I3 f3 I7 qn=>?_;obtain⟨m,hm,_⟩:=I7.loc;exact⟨m,hm,λh' RC=>⟨.ref acc,H6,w9 I3 (wZ I3 f3 I7) I7.free RC,rfl,qn⟩⟩
theorem Fb{K:Frag}{a:Addr}{xs:List V}{g:TG}{tt:TT}{HR:TI}{g2:TG}{HS:TT}{te:TE}{σ0:L2.St}{H:Hp}{Q:VK}(Pv:Nat->L2.St->Hp->Prop)(h0:Pv 0 σ0 H)(hl:∀ i σ H,i<=xs.length->Pv i σ H->bI K H a xs)
  (hs:∀ i x σ H,xs[i]?=some x->Pv i σ H->g x σ H fun σ2 H2=>tt σ2 H2 λb H3=>if b=true then HQ HR acc g2 HS te σ2 H3 (Pv (i+1)) else Pv (i+1) σ2 H3)
  (hd:∀ σ H,Pv xs.length σ H->Q (.ref acc) H):E9 (Qy K a) acc g tt HR g2 HS te σ0 H Q:=by
 refine⟨λi m σ H=>m=xs.length-i/\i<=xs.length/\Pv i σ H,⟨xs.length,by simp,Nat.zero_le _,h0⟩,?_⟩;rintro i m σ H ⟨rfl,hi,p⟩;have q:=hl i σ H hi p;by_cases tN:i<xs.length
 ·refine .inr ⟨⟨xs,xs[i],q,by simp[tN]⟩,Pv (i+1),fun σ' H' p'=>⟨xs.length-(i+1),Q,rfl,tN,p'⟩,λx H' y=>?_⟩;obtain⟨e,y⟩:=y;subst e;exact hs i x σ _ (y xs q) p
 ·have e:i=xs.length:=by lia
  subst e;exact .inl ⟨⟨xs,q,fH _⟩,hd σ H p⟩
theorem Ic{K:Frag}{a:Addr}{xs:List V}{g:TG}{tt:TT}{te:TE}{σ:L2.St}{H:Hp}{Nx:L2.St->Hp->Prop}(Pv:Nat->L2.St->Hp->Prop)(h0:Pv 0 σ H)(hl:∀ i σ H,i<=xs.length->Pv i σ H->bI K H a xs)
  (hs:∀ i x σ H,xs[i]?=some x->Pv i σ H->g x σ H fun σ2 H2=>tt σ2 H2 λb H3=>if b=true then te σ2 H3 λv H4=>∃ ys,H4 acc=some (.lst ys)/\ys.length<sizeLine/\Pv (i+1) σ2 (aM H4 acc (.lst (ys++[v]))) else Pv (i+1) σ2 H3)
  (hd:∀ σ H,Pv xs.length σ H->Nx σ H):∃ W:Nat->Nat->L2.St->Hp->Prop,(∃ m,W 0 m σ H)/\∀ i m σ H,W i m σ H->
  ((Qy K a).stop i H/\Nx σ H)\/((Qy K a).go i H/\∃ N2:L2.St->Hp->Prop,(∀ σ' H',N2 σ' H'->∃ m',m'<m/\W (i+1) m' σ' H')/\∀ x H',(Qy K a).Qx i H x H'->g x σ H' fun σ2 H2=>tt σ2 H2 λb H3 =>
   if b=true then te σ2 H3 λv H4=>∃ xs,H4 acc=some (.lst xs)/\xs.length<sizeLine/\N2 σ2 (aM H4 acc (.lst (xs++[v]))) else N2 σ2 H3):=by
 refine⟨λi m σ H=>m=xs.length-i/\i<=xs.length/\Pv i σ H,⟨xs.length,by simp,Nat.zero_le _,h0⟩,?_⟩;rintro i m σ H ⟨rfl,hi,p⟩;have q:=hl i σ H hi p;by_cases tN:i<xs.length
 ·refine .inr ⟨⟨xs,xs[i],q,by simp[tN]⟩,Pv (i+1),fun σ' H' p'=>⟨xs.length-(i+1),Q,rfl,tN,p'⟩,λx H' y=>?_⟩;obtain⟨e,y⟩:=y;subst e;exact hs i x σ _ (y xs q) p
 ·have e:i=xs.length:=by lia
  subst e;exact .inl ⟨⟨xs,q,fH _⟩,hd σ H p⟩
end
end cX
namespace cX
open Spec Rows L2
open AutoSeq1 (wpAny_loadPart')
section
variable {prog:Program} {w:World} {A:Around} {E:Value->Shared->Prop} {s:Shared} {κ:Type} [DecidableEq κ] {knd:KeyKind prog w κ}
theorem Lz{d:Addr}{Q:Bool->Shared->Prop}(hT:s.TypeIs (.ref d) "dict")(h:Q false s):wpAny (model prog w) A (Builtin.List.listLengthHint (.ref d)) Q E s:=by
 unfold Builtin.List.listLengthHint;refine wpAny_bind (wpAny_specialOf hT F.slot_dict_len.lookup ?_);generalize hid:("dict.__len__":String)=id0
 wp_delta
 rw[show splitId id0=some ("dict","__len__") by subst hid;decide +kernel];subst hid;refine wpAny_bind (wpAny_isInstance (T:="dict") (b:=true) hT (by rw[isSubtype_type];kernel_rfl) ?_);refine wpAny_ite_split (λq=>absurd q (by decide)) λ_=>?_;refine wpAny_ite_split (λ_=>?_) λq=>absurd nofun q;exact wpAny_bind (wpAny_typeOf hT (wpAny_pure h))
theorem Fc{R:Result->Shared->Prop}{d:Addr}{kvs:List (κ × Value)}{ep:Nat}(hh:A.handled=none)(hs:(d == sysModules)=false)(hd:s.heap.DictAt knd d kvs ep)(dO:kvs.length<=sizeLine)(S:Addr)(res:Value)(c₀:Nat)(hS:s.heap.get? S=some { cls:=.type "list",data:=.seq #[] c₀ })
  (hR:∀ h' tk qG c',(∀ b o,b≠S->s.heap.get? b=some o->h'.get? b=some o)->h'.get? S=some { cls:=.type "list",dict:=none,data:=.seq qG c',slots:=#[] }->
   ItemsOf (λi v=>∃ k x,kvs[i]?=some (k,x)/\knd.is k v=true) qG kvs.length->R (.ok (.ret res)) { s with heap:=h',toks:=tk }) :
  wpAny (model prog w) A.in1 (Builtin.List.listExtendWith (.ref S) (.ref d) res)
   (λjN s'=>match jN with|.done f=>R (.ok f) s'|.again c'=>c'.quiet=true/\codeAny (model prog w) A c' R s') (λe s'=>R (.error e) s') s:=by
 have hT:s.TypeIs (.ref d) "dict":=by
  obtain⟨o,es,ho,hx,_⟩:=hd;exact⟨o,ho,hx.1⟩
 have hSd:S≠d:=λe=>by
  obtain⟨o,es,ho,hx,hda,_⟩:=hd;rw[← e,hS]at ho;cases ho;cases hda
 have adQ:S<s.heap.objs.size:=Heap.lt_size hS
 have adR:d<s.heap.objs.size:=by
  obtain⟨o,es,ho,_⟩:=hd;exact Heap.lt_size ho
 have hSI:S≠s.heap.objs.size:=jS adQ;have hdI:d≠s.heap.objs.size:=jS adR;have W:=(Walks.dictKeys (prog:=prog) (w:=w) (A:=A.in1) (knd:=knd) hh s.heap.objs.size d hdI kvs ep).toS;unfold Builtin.List.listExtendWith;refine wpAny_bind (wpAny_typeOf hT ?_);have h1:Builtin.List.listSameRef (.ref S) (.ref d)=false:=by simp[Builtin.List.listSameRef,hSd]
 have h2:(Value.type "dict" == Value.type "list")=false:=by decide
 have h3:(Value.type "dict" == Value.type "tuple")=false:=by decide
 simp only[h1,h2,h3,Bool.or_false,Bool.false_eq_true,if_false];refine wpAny_bind (wpAny_pyIter_dict hs hd ?_);have rE:(s.heap.push { cls:=.type "dict_keyiterator",data:=.fields #[.ref d,.int 0 0,.int kvs.length 0,.int ep 0] }).IsKeyIter s.heap.objs.size d 0 kvs.length ep:=⟨_,Heap.get?_push_size _ rfl,V⟩;have iQ:∀ b o,s.heap.get? b=some o->(s.heap.push { cls:=.type "dict_keyiterator",data:=.fields #[.ref d,.int 0 0,.int kvs.length 0,.int ep 0] }).get? b=some o:=λb o e=>Heap.get?_push_of_some _ e;generalize s.heap.push { cls:=.type "dict_keyiterator",data:=.fields #[.ref d,.int 0 0,.int kvs.length 0,.int ep 0] }=g1 at rE iQ
 have hT1:({ s with heap:=g1 }:Shared).TypeIs (.ref d) "dict":=by
  obtain⟨o,ho,hc⟩:=hT;exact⟨o,iQ _ _ ho,hc⟩
 refine wpAny_bind (wpAny_holding (Lz hT1 ?_));refine wpAny_ite_split (λ_=>?_) λq=>absurd nofun q;refine wpAny_bind (wpAny_rule (wpAny_bind ?_));show wpAny _ A.in1 (updateSeq S (λz=>z.push .none) >>= λ_=>updateSeq S λz=>z.pop) _ _ _;have g1S:=iQ _ _ hS;refine wpAny_bind (wpAny_updateSeq g1S rfl ?_);have g2S:=Heap.get?_update_self (Obj.mapSeq λz=>z.push Value.none) g1S rfl;refine wpAny_updateSeq (hz:=by seq_fits) g2S rfl ?_;have g3S:=Heap.get?_update_self (Obj.mapSeq λz=>z.pop) g2S rfl
 have MY:∀ b o,b≠S->g1.get? b=some o->((g1.update S (Obj.mapSeq λz=>z.push Value.none)).update S (Obj.mapSeq λz=>z.pop)).get? b=some o:=λb o nb e =>
  (Heap.get?_update_other _ _ nb.symm).trans ((Heap.get?_update_other _ _ nb.symm).trans e)
 refine wpAny_pure ⟨plainId_quiet F.plain_extend_loop _,codeAny_extend_loopS W dO S (λhm=>?_) res kvs.length 0 _ #[] _ rfl (Nat.zero_le _) ⟨rE.at λo e=>MY _ o hSI.symm e,(hd.at' λo e=>MY _ o hSd.symm (iQ _ o e))⟩ g3S (ItemsOf.nil _) λs' qG c' hm hS' cT=>?_⟩
 ·rcases List.mem_cons.mp hm with e|e
  ·exact hSI e
  ·exact hSd (List.mem_singleton.mp e)
 ·rw[Moved.eq_with hm];refine hR s'.heap s'.toks qG c' (λb o nb e=>hm.heap b o (λq=>?_) (MY b o nb (iQ b o e))) hS' cT;rcases List.mem_cons.mp q with z|z
  ·exact nb z
  ·exact absurd (Heap.lt_size e) (by rw[List.mem_singleton.mp z];exact Nat.lt_irrefl _)
theorem zP{Q:Value->Shared->Prop}{d:Addr}{kvs:List (κ × Value)}{ep:Nat}(hh:A.handled=none)(hs:(d == sysModules)=false)(hd:s.heap.DictAt knd d kvs ep)(dO:kvs.length<=sizeLine)
  (hQ:∀ h' tk qG c',(∀ b o,s.heap.get? b=some o->h'.get? b=some o)->h'.get? s.heap.objs.size=some { cls:=.type "list",dict:=none,data:=.seq qG c',slots:=#[] }->
   ItemsOf (λi v=>∃ k x,kvs[i]?=some (k,x)/\knd.is k v=true) qG kvs.length->Q (.ref s.heap.objs.size) { s with heap:=h',toks:=tk }) :
  wpAny (model prog w) A (call (.type "list") [.ref d]) Q E s:=by
 refine callType_codes (Q₁:=λu s1=>u=.ref s.heap.objs.size/\s1={ s with heap:=s.heap.push { cls:=.type "list",data:=.seq #[] } }) F.called_list (F.typeCall_list_1 _) F.entry_list_init (code_list_new _ ⟨V⟩) λu s1 e1=>?_;obtain⟨rfl,rfl⟩:=e1;have hS:(s.heap.push { cls:=.type "list",data:=.seq #[] }).get? s.heap.objs.size=some { cls:=.type "list",data:=.seq #[] }:=Heap.get?_push_size _ rfl;have LC:(s.heap.push { cls:=.type "list",data:=.seq #[] }).DictAt knd d kvs ep:=hd.at' λo e=>Heap.get?_push_of_some _ e
 have Ul:d≠s.heap.objs.size:=by
  obtain⟨o,es,ho,_⟩:=hd;exact jS (Heap.lt_size ho)
 exists ⟨_,hS,rfl⟩,F.args_list_init_2 _ _;show wpAny _ _ (do let old ← Builtin.List.listItems (.ref s.heap.objs.size);Builtin.List.listUpdate (.ref s.heap.objs.size) (λ_=>#[]);letGo old.toList.reverse;Builtin.List.listExtendWith (.ref s.heap.objs.size) (.ref d) .none) _ _ _;refine wpAny_bind ?_;unfold Builtin.List.listItems;refine wpAny_bind (wpAny_seqItems hS rfl (wpAny_pure ?_));show wpAny _ _ (updateSeq s.heap.objs.size (λ_=>#[]) >>= λ_=>letGo (#[]:Array Value).toList.reverse >>= λ_=>Builtin.List.listExtendWith (.ref s.heap.objs.size) (.ref d) .none) _ _ _;refine wpAny_bind (wpAny_updateSeq hS rfl ?_);have Wg:=Heap.get?_update_self (Obj.mapSeq λ_=>(#[]:Array Value)) hS rfl;have MY:∀ b o,b≠s.heap.objs.size->(s.heap.push { cls:=.type "list",data:=.seq #[] }).get? b=some o->((s.heap.push { cls:=.type "list",data:=.seq #[] }).update s.heap.objs.size (Obj.mapSeq λ_=>(#[]:Array Value))).get? b=some o:=λb o nb e=>(Heap.get?_update_other _ _ nb.symm).trans e;refine wpAny_bind (wpAny_letGo ?_);refine Fc (A:=A.in1) (knd:=knd) hh hs (LC.at' λo e=>MY _ o Ul e) dO s.heap.objs.size .none _ Wg λh' tk qG c' hk hS' cT=>?_;exact⟨rfl,hQ h' tk qG c' (λb o e=>hk b o (jS (Heap.lt_size e)) (MY b o (jS (Heap.lt_size e)) (Heap.get?_push_of_some _ e))) hS' cT⟩
end
theorem Ie{X:Cx}(hc:X.calm=true):jV X (.type "list") (λxs H Q=>∃ (d:Addr) (kvs:List (eT × V)),xs=[.ref d]/\H d=some (.dK kvs)/\∀ l,H l=none->Q (.ref l) (aM H l (.lst (kvs.map λp=>kV p.1)))):=by
 intro ao s σ H xs us Q I r h;obtain⟨d,kvs,rfl,hd,q⟩:=h;obtain⟨u,rfl,rx⟩:=r.one;cases (show u=Value.ref d from rx);obtain⟨hz,hs,vs,kv,o,es,ep,ho,hx⟩:=(show fR X.prog X.w H s.heap d (.dK kvs) from I.hok d _ hd);have len:=kv.length;refine zP (I.ok.hd hc) hs ⟨o,es,ho,hx⟩ ∅ λh' tk qG c' hk hS cT=>?_;refine⟨.ref s.heap.objs.size,_,I.laid (o:=.lst (kvs.map λp=>kV p.1)) (t':=tk) hk (fH _) ⟨by rw[cz];exact hz,qG.toList,c',?_,by simpa using hS⟩,rfl,q _ (I.hok.fresh (fH _))⟩
 have key:∀ (kvs:List (eT × V)) (vs:List (eT × Value)) (us:List Value),KV kvs vs->us.length=vs.length->(∀ (j:Nat) (v:Value),us[j]?=some v->∃ k x,vs[j]?=some (k,x)/\zc k v=true)->cA (kvs.map λp=>kV p.1) us:=by
  intro kvs
  induction kvs with
  | nil =>
   intro vs us kv hl _;cases kv
   cases us with
   | nil=>exact .nil
   | cons=>simp at hl
  | cons p r ih =>
   intro vs us kv hl hp
   cases kv with
   | @cons _ q _ De h1 h2 =>
   cases us with
   | nil=>simp at hl
   | cons u us =>
    obtain⟨k,x,e1,e2⟩:=hp 0 u rfl;have e3:q=(k,x):=by simpa using e1
    subst e3;refine .cons ?_ (ih De us h2 (by simpa using hl) λj v e=>?_)
    ·show L2.RelV (kV p.1) u;rw[show p.1=k from h1.1];rcases eU e2 with ⟨i,t,rfl,rfl⟩|⟨i,t,rfl,rfl⟩
     ·exact⟨t,rfl⟩
     ·exact⟨t,rfl⟩
    ·obtain⟨k',x',e4,e5⟩:=hp (j+1) v (by simpa using e);exact⟨k',x',by simpa using e4,e5⟩
 exact key kvs vs qG.toList kv (by simpa using cT.1) λj v e=>cT.2 j v (by simpa using e)
end cX
namespace zQ
open Spec Rows L2 cX gx
end zQ
namespace gx
open Spec Rows L2 cX fO zQ
inductive cu{α β:Type}(R:α->β->Prop):List α->List β->Prop
 | nil:cu R [] []
 | cons {a:α} {b:β} {as:List α} {bs:List β}:R a b->cu R as bs->cu R (a::as) (b::bs)
section
variable {α β:Type} {R R':α->β->Prop} {as:List α} {bs:List β} {a:α} {b:β}
theorem cu.len{as:List α}{bs:List β}(h:cu R as bs):as.length=bs.length:=by
 induction h with
 | nil=>rfl
 | cons _ _ ih=>rw[lR,lR,ih]
theorem cu.get:∀ {as:List α} {bs:List β} {i:Nat},cu R as bs->as[i]?=some a->∃ b,bs[i]?=some b/\R a b
 | _,_,_,.nil,h=>by simp at h
 | _,_,0,.cons r _,h=>by simp at h;subst h;exact⟨Y,r⟩
 | _,_,i+1,.cons _ t,h=>by simp at h;simpa using t.get h
theorem cu.get':∀ {as:List α} {bs:List β} {i:Nat},cu R as bs->bs[i]?=some b->∃ a,as[i]?=some a/\R a b
 | _,_,_,.nil,h=>by simp at h
 | _,_,0,.cons r _,h=>by simp at h;subst h;exact⟨Y,r⟩
 | _,_,i+1,.cons _ t,h=>by simp at h;simpa using t.get' h
theorem cu.snoc{as:List α}{bs:List β}(t:cu R as bs)(h:R a b):cu R (as++[a]) (bs++[b]):=by
 induction t with
 | nil=>exact .cons h .nil
 | cons r _ ih=>exact .cons r ih
theorem cu.mono{as:List α}{bs:List β}(h:∀ a b,R a b->R' a b)(t:cu R as bs):cu R' as bs:=by
 induction t with
 | nil=>exact .nil
 | cons r _ ih=>exact .cons (h _ _ r) ih
theorem cu.set:∀ {as:List α} {bs:List β} (i:Nat),cu R as bs->R a b->cu R (as.set i a) (bs.set i b)
 | _,_,_,.nil,_=>.nil
 | _,_,0,.cons _ t,h=>.cons h t
 | _,_,i+1,.cons r t,h=>.cons r (t.set i h)
theorem cu.split:∀ {as:List α} {bs:List β},cu R as (bs++[b])->∃ Ow a,as=Ow++[a]/\cu R Ow bs/\R a b
 | _,[],.cons r .nil=>⟨[],Y,.nil,r⟩
 | _,c::bs,.cons r t=>by
  obtain⟨Ow,a,rfl,t',r'⟩:=t.split;exact⟨_::Ow,a,rfl,.cons r t',r'⟩
end
inductive aQ where
 | win (n:Int)
 | aI (a b:Int)
def zR:aQ->List V
 | .win n=>[.str "win",.int n]
 | .aI a b=>[.str "ink",.int a,.int b]
def cG(H:Hp)(v:V)(it:aQ):Prop:=∃ a,v=.ref a/\H a=some (.tup (zR it))
theorem cG.same{H H':Hp}{v:V}{it:aQ}(s:aK H H'):cG H v it->cG H' v it:=λ⟨a,e,h⟩=>⟨a,e,s _ _ h⟩
theorem cG.keep{H H':Hp}{v:V}{it:aQ}{q:Addr}{xs:List V}(hq:H q=some (.lst xs))(k:cB q H H'):cG H v it->cG H' v it:=λ⟨a,e,h⟩=>⟨a,e,k a _ h (by
 intro z;rw[z,hq]at h
 cases h)⟩
def bz(H:Hp)(v:V)(aL:List aQ):Prop:=∃ a vs,v=.ref a/\H a=some (.lst vs)/\cu (cG H) vs aL
theorem bz.same{H H':Hp}{v:V}{aL:List aQ}(s:aK H H'):bz H v aL->bz H' v aL:=λ⟨a,vs,e,h,t⟩=>⟨a,vs,e,s _ _ h,t.mono λ_ _=>cG.same s⟩
def gp(H:Hp)(r:Addr)(rows:List (List aQ)):Prop:=∃ vs,H r=some (.lst vs)/\cu (bz H) vs rows
theorem gp.same{H H':Hp}{r:Addr}{rows:List (List aQ)}(s:aK H H'):gp H r rows->gp H' r rows:=λ⟨vs,h,t⟩=>⟨vs,s _ _ h,t.mono λ_ _=>bz.same s⟩
theorem cG.eqv{H:Hp}{x y:V}{it:aQ}(n:Nat)(h1:cG H x it)(h2:cG H y it):Eqv H (n+2) x y:=by
 obtain⟨a,rfl,e1⟩:=h1;obtain⟨b,rfl,e2⟩:=h2;refine .inr ⟨false,a,b,Z,e1,e2,rfl,λi u v eu ev=>?_⟩;rw[eu]at ev;cases ev
 cases it with
 | win n =>
  match i,eu with
  | 0,e=>cases e;exact .inl ⟨V⟩
  | 1,e=>cases e;exact .inl ⟨V⟩
  | k+2,e=>simp[zR]at e
 | aI p q =>
  match i,eu with
  | 0,e=>cases e;exact .inl ⟨V⟩
  | 1,e=>cases e;exact .inl ⟨V⟩
  | 2,e=>cases e;exact .inl ⟨V⟩
  | k+3,e=>simp[zR]at e
theorem bz.eqv{H:Hp}{x y:V}{aL:List aQ}(n:Nat)(h1:bz H x aL)(h2:bz H y aL):Eqv H (n+3) x y:=by
 obtain⟨a,vs,rfl,e1,t1⟩:=h1;obtain⟨b,us,rfl,e2,t2⟩:=h2;refine .inr ⟨true,a,b,Z,e1,e2,by rw[t1.len,t2.len],λi u v eu ev=>?_⟩;obtain⟨z,ez,r1⟩:=t1.get eu;obtain⟨z',ez',r2⟩:=t2.get ev;rw[ez]at ez';cases ez';exact r1.eqv n r2
def bC(t:List aQ)(e:Int):List aQ :=
 if e<0 then t++[.win (-1-e)] else
 match t.getLast? with
 | some (.aI a b)=>if b=e then t.dropLast++[.aI a (e+1)] else t++[.aI e (e+1)]
 | _=>t++[.aI e (e+1)]
def aF(es:List Int):List aQ:=es.foldl bC []
def eN(aL:List aQ):List Int:=aL.filterMap λit=>match it with|.win n=>some n|.aI _ _=>none
def dM(es:List Int):List Int:=es.filterMap λe=>if e<0 then some (-1-e) else none
theorem gi(a b:List aQ):eN (a++b)=eN a++eN b:=by unfold eN;rw[List.filterMap_append]
theorem LH(t:List aQ)(e:Int):eN (bC t e)=eN t++(if e<0 then [-1-e] else []):=by
 unfold bC;by_cases h:e<0
 ·rw[if_pos h,if_pos h,gi];rfl
 ·rw[if_neg h,if_neg h,gK];rcases nB t with rfl|⟨t',l,rfl⟩
  ·rfl
  ·rw[kX,jR]
   cases l with
   | win n=>simp[gi,eN]
   | aI a b =>
    show eN (if b=e then (t'++[aQ.aI a b]).dropLast++[.aI a (e+1)] else (t'++[aQ.aI a b])++[.aI e (e+1)])=_;by_cases hb:b=e
    ·rw[if_pos hb,List.dropLast_concat,gi,gi];rfl
    ·rw[if_neg hb,gi,gi];simp[eN]
theorem LK(es:List Int):∀ t:List aQ,eN (es.foldl bC t)=eN t++dM es:=by
 induction es with
 | nil=>intro t;simp[dM]
 | cons e es ih =>
  intro t;rw[kq,ih,LH,nC];unfold dM;rw[List.filterMap_cons];by_cases h:e<0
  ·simp[h]
  ·simp[h]
theorem iF(es:List Int):eN (aF es)=dM es:=by
 unfold aF;rw[LK];rfl
theorem cy{es:List Int}{y:Int}:y∈dM es↔0<=y/\-1-y∈es:=by
 unfold dM;rw[List.mem_filterMap];constructor
 ·rintro⟨e,he,h⟩;by_cases h0:e<0
  ·rw[if_pos h0]at h;cases h;exact⟨Q,by rw[show -1-(-1-e)=e by lia];exact he⟩
  ·rw[if_neg h0]at h;cases h
 ·rintro⟨h0,h1⟩;exists -1-y,h1;rw[if_pos ∅];congr 1;lia
theorem sJ(es:List Int):∀ t:List aQ,(es.foldl bC t).length<=t.length+es.length:=by
 induction es with
 | nil=>intro t;simp
 | cons e es ih =>
  intro t;rw[kq];have z:=ih (bC t e)
  have z2:(bC t e).length<=t.length+1:=by
   unfold bC;split
   ·simp
   ·split
    ·split
     ·rw[cP,List.length_dropLast,qD];lia
     ·simp
    ·simp
  rw[lR];lia
def jO(rows:cO)(x y:Int):Prop:=0<=x/\∃ es,rows[x.toNat]?=some es/\y∈dM es
inductive Reach(E:Int->Int->Prop)(s:Int):Int->Prop
 | one {y:Int}:E s y->Reach E s y
 | step {y z:Int}:Reach E s y->E y z->Reach E s z
theorem Reach.closed{E:Int->Int->Prop}{s:Int}{S:Int->Prop}(h0:∀ y,E s y->S y)(h1:∀ x y,S x->E x y->S y):∀ {g:Int},Reach E s g->S g
 | _,.one h=>h0 _ h
 | _,.step r h=>h1 _ _ (Reach.closed h0 h1 r) h
def gr(rows:cO):Prop:=∀ es∈rows,∀ y∈dM es,y<rows.length
theorem gr.Es{rows:cO}(h:gr rows){x y:Int}(e:jO rows x y):0<=y/\y<rows.length:=by
 obtain⟨_,es,he,hy⟩:=e;exact⟨(cy.mp hy).1,h es (pA he) y hy⟩
def cnt(n:Nat)(p:Nat->Bool):Nat:=((List.range n).filter p).length
theorem Ox(n:Nat){p q:Nat->Bool}(h:∀ i,i<n->p i=q i):cnt n p=cnt n q:=by
 unfold cnt;rw[List.filter_congr λi hi=>h i (List.mem_range.mp hi)]
theorem vE(n:Nat)(p:Nat->Bool):cnt (n+1) p=cnt n p+(if p n=true then 1 else 0):=by
 unfold cnt;rw[List.range_succ,List.filter_append,cP];congr 1;by_cases h:p n=true
 ·rw[if_pos h];simp[h]
 ·rw[if_neg h];simp[h]
theorem vF(j:Nat):∀ (n:Nat) {p q:Nat->Bool},j<n->p j=true->(∀ i,q i=(p i&&decide (i≠j)))->cnt n q+1=cnt n p
 | 0,_,_,h,_,_=>by lia
 | n+1,p,q,h,hj,hq=>by
  rw[vE,vE];by_cases e:j=n
  ·subst e
   have z:cnt j q=cnt j p:=Ox j λi hi=>by
    rw[hq i];have:decide (i≠j)=true:=by simp;lia
    rw[this,Bool.and_true]
   have z2:q j=false:=by rw[hq j];simp
   rw[z,z2,if_pos hj];simp
  ·have ih:=vF j n (p:=p) (q:=q) ∅ hj hq
   have z:q n=p n:=by
    rw[hq n];have:decide (n≠j)=true:=by simp;lia
    rw[this,Bool.and_true]
   rw[z];lia
theorem zS(n:Nat)(p:Nat->Bool):cnt n p<=n:=by
 unfold cnt;have:=List.length_filter_le p (List.range n);rw[List.length_range]at this;exact this
def eZ(av:Addr->Prop)(H:Hp)(v:V)(es:List Int):Prop:=∃ a,v=.ref a/\¬ av a/\H a=some (.lst (es.map V.int))
def ic(av:Addr->Prop)(H:Hp)(r:Addr)(rows:cO):Prop:=∃ vs,H r=some (.lst vs)/\cu (eZ av H) vs rows
theorem eZ.keep{av:Addr->Prop}{H H':Hp}{v:V}{es:List Int}(k:∀ a o,¬ av a->H a=some o->H' a=some o):eZ av H v es->eZ av H' v es:=λ⟨a,e,n,h⟩=>⟨a,e,n,k a _ n h⟩
theorem ic.same{av:Addr->Prop}{H H':Hp}{r:Addr}{rows:cO}(s:aK H H'):ic av H r rows->ic av H' r rows:=λ⟨vs,h,t⟩=>⟨vs,s _ _ h,t.mono λ_ _=>eZ.keep λa o _ e=>s a o e⟩
theorem ic.get{av:Addr->Prop}{H:Hp}{r:Addr}{rows:cO}{i:Nat}{es:List Int}(h:ic av H r rows)(e:rows[i]?=some es):∃ vs a,H r=some (.lst vs)/\vs[i]?=some (.ref a)/\H a=some (.lst (es.map V.int))/\vs.length=rows.length:=by
 obtain⟨vs,hr,t⟩:=h;obtain⟨v,ev,a,rfl,_,ha⟩:=t.get' e;exact⟨vs,a,hr,ev,ha,t.len⟩
theorem Df(x:Int)(xs:List Int):inV (.int x) (xs.map V.int)=decide (x∈xs):=by
 unfold inV
 induction xs with
 | nil=>rfl
 | cons y ys ih =>
  rw[jv,List.any_cons,ih];show ((y == x) || decide (x∈ys))=_;by_cases h:y=x
  ·simp[h]
  ·have h2:¬ x=y:=λz=>h z.symm;simp[h,h2]
theorem xj(xs:List Int):(xs.map V.int).all vo=true:=by
 rw[List.all_eq_true];intro v hv;obtain⟨i,_,rfl⟩:=List.mem_map.mp hv;rfl
def Dg(rows:cO):Prop:=∃ rk:Int->Nat,(∀ x,rk x<=40)/\∀ x y,jO rows x y->rk y<rk x
theorem eZ.at{av:Addr->Prop}{H:Hp}{v:V}{es:List Int}{q:Addr}(o:HO)(hq:av q):eZ av H v es->eZ av (aM H q o) v es:=eZ.keep λa u n e=>by
 rw[aJ (λz=>n (by rw[z];exact hq))];exact e
theorem eZ.same{av:Addr->Prop}{H H':Hp}{v:V}{es:List Int}(s:aK H H'):eZ av H v es->eZ av H' v es:=eZ.keep λa u _ e=>s a u e
def seen(kvs:List (eT × V))(x:Int):Prop:=(cI kvs (Sum.inl x)).isSome=true
def oz(n:Nat)(kvs:List (eT × V)):Nat:=cnt n λi=>(cI kvs (Sum.inl (i:Int))).isNone
theorem Fd{kvs:List (eT × V)}{y x:Int}(v:V):seen (eK kvs (Sum.inl y) v) x↔x=y\/seen kvs x:=by
 unfold seen;rw[kJ];by_cases h:x=y
 ·rw[if_pos (by rw[h]),h];simp
 ·rw[if_neg (λz=>h (Sum.inl.inj z))];simp[h]
theorem Fe{n:Nat}{kvs:List (eT × V)}{y:Int}(v:V)(h0:0<=y)(h1:y<n)(hn:cI kvs (Sum.inl y)=none):oz n (eK kvs (Sum.inl y) v)+1=oz n kvs:=by
 refine vF y.toNat n ∅ ?_ λi=>?_
 ·show (cI kvs (Sum.inl (y.toNat:Int))).isNone=true;rw[show ((y.toNat:Nat):Int)=y by lia,hn];rfl
 ·show (cI (eK kvs (Sum.inl y) v) (Sum.inl (i:Int))).isNone=((cI kvs (Sum.inl (i:Int))).isNone&&decide (i≠y.toNat));rw[kJ];by_cases h:(i:Int)=y
  ·rw[if_pos (by rw[h])];have:decide (i≠y.toNat)=false:=by simp;lia
   rw[this,Bool.and_false];rfl
  ·rw[if_neg (λz=>h (Sum.inl.inj z))];have:decide (i≠y.toNat)=true:=by simp;lia
   rw[this,Bool.and_true]
theorem Kh(lo:Int)(n:Nat):(run lo n).length=n:=by
 induction n generalizing lo with
 | zero=>rfl
 | succ n ih=>rw[run,lR,ih]
theorem Oz:∀ {n:Nat} {lo y:Int},y∈run lo n->lo<=y/\y<lo+n
 | 0,_,_,h=>by cases h
 | n+1,lo,y,h=>by
  rcases List.mem_cons.mp h with rfl|z
  ·lia
  ·have:=Oz z;lia
theorem cu.new{H2:Hp}{q t:Addr}{vs:List V}{aL:List aQ}{it:aQ}{ys:List V}(eL:H2 q=some (.lst ys))(hb:cu (cG H2) vs aL)(ht:H2 t=none)(zs:List V) :
  cu (cG (aM (aM H2 t (.tup (zR it))) q (.lst zs))) (vs++[.ref t]) (aL++[it]):=by
 have Oi:q≠t:=az eL ht;have s1:aK H2 (aM H2 t (.tup (zR it))):=ak ht _;refine cu.snoc (hb.mono λv i h=>(h.same s1).keep (s1 _ _ eL) (aG q _ _)) ⟨t,rfl,?_⟩;rw[aJ Oi.symm,af]
end gx
namespace Wh
open Spec Rows L2 cX
section
variable {M:Model} {A:Around} {E:Value->Shared->Prop} {s:Shared}
theorem Dh{a b:Value}{Q:Value->Shared->Prop}(ha:s.TypeIs a "list")(hb:s.TypeIs b "list")(hc:wpAny M A (call (.builtin "list.__iadd__") [a,b]) Q E s):wpAny M A (inplaceOp .Add a b) Q E s:=by
 unfold inplaceOp;refine wpAny_holding ?_;have hq:isSeqSlot (some (.builtin "list.__iadd__"))=true:=by decide +kernel
 have hfi:fillsInplaceSlot (.type "list") "add" (Operator.Add == .Add)=pure false:=by
  unfold fillsInplaceSlot;show (typeLookup (.type "list") (dunderI "add") >>= λfi=>pure (fi.isSome&&!isSeqSlot fi))=pure false;rw[PySem.F.slot_list_iadd.lookup,pure_bind,hq];rfl
 have hsi:seqSlot? (.type "list") (dunderI "add")=pure (some (.builtin "list.__iadd__")):=PySem.seqSlot_of PySem.F.slot_list_iadd.lookup hq;refine wpAny_bind (wpAny_typeOf ha (wpAny_bind (wpAny_of_eq hfi ?_)));show wpAny M A (if false=true then _ else _) Q E s;rw[if_neg gf];refine wpAny_bind (binaryOp1_none (nm:="add") ha hb PySem.noFill_list_add ?_);refine wpAny_bind (wpAny_of_eq hsi ?_);exact wpAny_bind (wpAny_rule hc)
end
section
variable {X:Cx}
def Um:V->V->Hp->VK->Prop:=λx y H Q=>∃ l b xs zs,x=.ref l/\y=.ref b/\H l=some (.lst xs)/\H b=some (.lst zs)/\xs.length+zs.length<=sizeLine/\Q (.ref l) (aM H l (.lst (xs++zs)))
theorem uL:PIp X .Add Um:=by
 intro ao s σ H x y v u Q I rx ry h;obtain⟨l,b,xs,zs,rfl,rfl,hH,hB,hz,q⟩:=h;cases rx;cases ry;obtain⟨z,aL,n,r,hl,e⟩:=I.zu hH;obtain⟨z2,its2,n2,r2,xW,e2⟩:=I.zu hB;have hsz:aL.toArray.size+its2.toArray.size<=sizeLine:=by rw[gP,gP];lia
 have EL:¬ (!aL.toArray.isEmpty&&Builtin.List.listTooLong (aL.toArray.size+its2.toArray.size))=true:=by
  rw[zw hsz,Bool.and_false];exact gf
 refine Dh ⟨_,e,rfl⟩ ⟨_,e2,rfl⟩ ?_;refine call_meets PySem.F.slot_list_iadd ⟨_,e,rfl⟩ PySem.F.entry_list_iadd (PySem.F.args_list_iadd_2 _ _) (AutoSeq1.list___iadd___list_list_0 l aL.toArray n b its2.toArray n2 EL (by rw[gP];lia) ∅) ⟨e,e2,?_⟩;refine⟨.ref l,_,I.NO (its':=aL++its2) hH e (by simp) (r.append r2) ?_,rfl,q⟩;rw[cP];lia
section
variable {N:List Str} {scope:Scope} {cl:List (Str × Addr)} {C:Addr} {s₀:Shared} {H₀:Hp} {ex:List Addr} {pn:List (Addr × Obj)}
theorem Ig:jV (jE X N scope cl C s₀ H₀ ex pn) (.type "list") (Y5 X.K):=cS
end
theorem Ih:YS X .Add Um:=λao s σ H x y u v Q I rx ry h=>uL ao s σ H x y u v Q I rx ry h
end
theorem Kl{p q A B T:Prop} [Decidable p] [Decidable q] (w:p->(if decide q=true then A else B)->T) (h1:p/\q->A) (h2:¬ (p/\q)->B):if decide p=true then T else (if false=true then A else B):=by
 by_cases a:p
 ·rw[if_pos (decide_eq_true a)];by_cases b:q
  ·exact w a (by rw[if_pos (decide_eq_true b)];exact h1 ⟨a,b⟩)
  ·exact w a (by rw[decide_eq_false b,if_neg gf];exact h2 λz=>b z.2)
 ·rw[decide_eq_false a,if_neg gf,if_neg gf];exact h2 λz=>a z.1
theorem OA{p q A B T:Prop} [Decidable p] [Decidable q] (w:(if decide q=true then A else B)->T) (h1:p/\q->A) (h2:¬ (p/\q)->B):if decide p=true then T else (if false=true then A else B):=Kl (λ_=>w) h1 h2
end Wh
namespace gx
open Spec Rows L2 cX fO zQ
def lN(r:Row):Prop:=∀ p∈r,0<=p.1/\p.1<=p.2
def jF(r:Row):Prop:=∀ p∈r,0<=p.1/\p.1<p.2
theorem B4{t:Row}{s e:Int}(h:jF t)(h0:0<=s)(h1:s<e):jF (iQ t s e):=by
 have add:jF (t++[(s,e)]):=λp hp=>by
  rcases List.mem_append.mp hp with z|z
  ·exact h p z
  ·rw[List.mem_singleton.mp z];exact⟨h0,h1⟩
 unfold iQ;rcases nB t with rfl|⟨t',l,rfl⟩
 ·exact add
 ·rw[kX]at h add ⊢;rw[jR];show jF (if l.2=s then (t'++[l]).dropLast++[(l.1,e)] else t'++[l]++[(s,e)]);by_cases c:l.2=s
  ·rw[if_pos c,List.dropLast_concat];intro p hp;rcases List.mem_append.mp hp with z|z
   ·exact h p (qE _ z)
   ·have:=h l (by simp);rw[List.mem_singleton.mp z];exact⟨this.1,by show l.1<e;lia⟩
  ·rw[if_neg c];exact add
theorem mq{r:Row}(h:lN r):jF (bZ r):=by
 have z:∀ (r t:Row),lN r->jF t->jF (r.foldl dI t):=by
  intro r
  induction r with
  | nil=>intro t _ g;exact g
  | cons p r ih =>
   intro t h g;rw[kq];refine ih _ (λq hq=>h q (mE _ hq)) ?_;unfold dI;have hp:=h p (by simp);by_cases c:p.1=p.2
   ·rw[if_pos c];exact g
   ·rw[if_neg c];exact B4 g hp.1 ∅
 exact z r [] h λp hp=>by cases hp
theorem Ca{ns:List Int}(h:∀ x∈ns,0<=x):jF (cK ns):=by
 have z:∀ (ns:List Int) (t:Row),(∀ x∈ns,0<=x)->jF t->jF (ns.foldl (λt n=>iQ t n (n+1)) t):=by
  intro ns
  induction ns with
  | nil=>intro t _ g;exact g
  | cons n ns ih =>
   intro t h g;rw[kq];exact ih _ (λx hx=>h x (mE _ hx)) (B4 g (h n (by simp)) ∅)
 exact z ns [] h λp hp=>by cases hp
theorem jF.nn{r:Row}(h:jF r):lN r:=λp hp=>⟨(h p hp).1,by have:=(h p hp).2;lia⟩
theorem zT(a b:Int):∀ (r:Row) (h:Int),lN r->lN (kW a b h r)
 | [],_,_=>λp hp=>by cases hp
 | q::r,h,g=>by
  intro p hp;rw[kW]at hp;rcases List.mem_append.mp hp with z|z
  ·have gq:=g q (by simp);refine⟨?_,Ol a b h q p z⟩;unfold Oj at z;split at z
   ·rw[List.mem_singleton.mp z];show 0<=q.1+max (a-h) 0;lia
   ·cases z
  ·exact zT a b r _ (λx hx=>g x (mE _ hx)) p z
end gx
namespace RE
open Spec Rows L2 cX
def Le(p q:Int × Int):Prop:=p.1<q.1\/(p.1=q.1/\p.2<=q.2)
instance (p q:Int × Int):Decidable (Le p q):=by unfold Le;infer_instance
def less(p q:Int × Int):Bool:=decide (¬ Le q p)
theorem LL(t:Bool)(x y:Value):keyLt' (tuples' t) x y=(do
  let xs ← Builtin.List.listItems x
  let ys ← Builtin.List.listItems y
  for ((p,q),i) in (xs.toList.zip ys.toList).zipIdx do
   if !(← eqBool p q) then return ← oneLt' (t&&i == 0) p q
  return decide (xs.size<ys.size)):=rfl
theorem Cb{prog:Program}{w:World}{A:Around}{E:Value->Shared->Prop}{s:Shared}{a b:Int}{t u:Tok}{Q:Bool->Shared->Prop}(k:Bool)(h:Q (decide (a<b)) s):wpAny (model prog w) A (oneLt' k (.int a t) (.int b u)) Q E s:=by
 cases k with
 | true=>exact oneLt_int h
 | false =>
  rw[oneLt'_eq];simp only[Bool.false_eq_true,if_false];refine wpAny_bind ((PyProof.Rows.lt_int ?_:wpAny (model prog w) A (compareOp .Lt (.int a t) (.int b u)) _ E s));exact wpAny_truthy_bool h
def jG(h:Heap)(v:Value)(p:Int × Int):Prop:=∃ a t u,v=.ref a/\IsTup h a #[.int p.1 t,.int p.2 u]
theorem Ii{prog:Program}{w:World}{A:Around}{E:Value->Shared->Prop}{s:Shared}{x y:Value}{p q:Int × Int}{Q:Bool->Shared->Prop}(hx:jG s.heap x p)(hy:jG s.heap y q)(h:Q (less p q) s):wpAny (model prog w) A (keyLt' (tuples' true) x y) Q E s:=by
 obtain⟨a,t1,t2,rfl,ha⟩:=hx;obtain⟨b,u1,u2,rfl,hb⟩:=hy;obtain⟨oa,ha1,ha2,na,ha3⟩:=id ha;obtain⟨ob,Et,QC,nb,Uo⟩:=id hb;rw[LL];refine wpAny_bind (listItems_at ha1 ha3 ?_);refine wpAny_bind (listItems_at Et Uo ?_);have e:((#[Value.int p.1 t1,.int p.2 t2]:Array Value).toList.zip (#[Value.int q.1 u1,.int q.2 u2]:Array Value).toList).zipIdx=[((.int p.1 t1,.int q.1 u1),0),((.int p.2 t2,.int q.2 u2),1)]:=rfl;rw[e];simp only[List.forIn_cons,List.forIn_nil];refine wpAny_bind (wpAny_bind (wpAny_bind (SeqAt.EqAt.int_int p.1 t1 q.1 u1 prog w _ _ ?_)));by_cases c1:p.1=q.1
 ·have d1:(!p.1 == q.1)=false:=by simp[c1]
  rw[d1,if_neg gf];refine wpAny_pure (wpAny_bind (wpAny_bind (SeqAt.EqAt.int_int p.2 t2 q.2 u2 prog w _ _ ?_)));by_cases c2:p.2=q.2
  ·have d2:(!p.2 == q.2)=false:=by simp[c2]
   rw[d2,if_neg gf];refine wpAny_pure (wpAny_pure (wpAny_pure ?_));have:less p q=false:=by unfold less Le;simp[c1,c2]
   rw[this]at h;exact h
  ·have d2:(!p.2 == q.2)=true:=by simp[c2]
   rw[d2,if_pos rfl];refine wpAny_bind (Cb _ (wpAny_pure (wpAny_pure (wpAny_pure ?_))));have:less p q=decide (p.2<q.2):=by unfold less Le;simp[c1]
   rw[← this];exact h
 ·have d1:(!p.1 == q.1)=true:=by simp[c1]
  rw[d1,if_pos rfl];refine wpAny_bind (Cb _ (wpAny_pure (wpAny_pure (wpAny_pure ?_))))
  have:less p q=decide (p.1<q.1):=by
   unfold less Le;congr 1;apply propext;lia
  rw[← this];exact h
section
variable {prog:Program} {w:World} {A:Around} {E:Value->Shared->Prop} {s:Shared} {z:Array Keyed} {key:Value->Int × Int}
def kp(key:Value->Int × Int)(xs:Array Keyed)(i:Nat):Int × Int:=(xs[i]?.map λr=>key r.1).getD (0,0)
theorem Uq{xs ys:Array Keyed}{i j:Nat}(h:xs[i]?=ys[j]?):kp key xs i=kp key ys j:=by unfold kp;rw[h]
def Up(key:Value->Int × Int)(xs:Array Keyed)(n:Nat):Prop:=∀ i j,i<=j->j<n->Le (kp key xs i) (kp key xs j)
def Dn(key:Value->Int × Int)(xs:Array Keyed)(n:Nat):Prop:=∀ i j,i<=j->j<n->Le (kp key xs j) (kp key xs i)
theorem Le.rfl'(p:Int × Int):Le p p:=.inr ⟨rfl,Int.le_refl _⟩
theorem Le.tr{p q r:Int × Int}(h:Le p q)(g:Le q r):Le p r:=by unfold Le at *;lia
theorem Le.anti{p q:Int × Int}(h:Le p q)(g:Le q p):p=q:=by
 unfold Le at *;exact Prod.ext ∅ ∅
theorem Le.Wi{p q:Int × Int}(h:¬ Le p q):Le q p:=by unfold Le at *;lia
theorem Wj{p q:Int × Int}(h:less p q=true):¬ Le q p:=of_decide_eq_true h
theorem Wk{p q:Int × Int}(h:less p q=false):Le q p:=by
 unfold less at h;exact Classical.byContradiction λc=>by rw[decide_eq_true c]at h;cases h
structure Ij(z:Array Keyed)(st:SortSt):Prop where
 pm:(arrOf st).Perm z
 kd:kindOf st=tuples' true
 fl:failedOf st=none
 pd:pendingOf st=#[]
theorem Ij.sz{st:SortSt}(b:Ij z st):(arrOf st).size=z.size:=b.pm.size_eq
theorem Ij.put{st:SortSt}(b:Ij z st){xs:Array Keyed}(h:xs.Perm (arrOf st)):Ij z (setArr st xs):=⟨h.trans b.pm,b.kd,b.fl,b.pd⟩
def XY(prog:Program)(w:World)(A:Around)(s:Shared)(key:Value->Int × Int)(z:Array Keyed):Prop :=
 ∀ r∈z.toList,∀ o∈z.toList,∀ (E:Value->Shared->Prop) (Q:Bool->Shared->Prop),Q (less (key r.1) (key o.1)) s->wpAny (model prog w) A (keyLt' (tuples' true) r.1 o.1) Q E s
theorem Ij.get{st:SortSt}(b:Ij z st){i:Nat}(hi:i<z.size):∃ r∈z.toList,(arrOf st)[i]?=some r/\kp key (arrOf st) i=key r.1:=by
 have XX:i<(arrOf st).size:=by rw[b.sz];exact hi
 exists (arrOf st)[i],(Array.perm_iff_toList_perm.mp b.pm).mem_iff.mp (by simp),getElem?_pos _ i XX;unfold kp;rw[getElem?_pos _ i XX];rfl
theorem cmp{st:SortSt}{i j:Nat}{Q:Option Bool->SortSt->Prop}(C:XY prog w A s key z)(b:Ij z st)(hi:i<z.size)(hj:j<z.size)
  (h:Q (some (less (kp key (arrOf st) i) (kp key (arrOf st) j))) st):wpS (model prog w) A E s (ltAt' i j) Q st:=by
 obtain⟨r,hr,e1,k1⟩:=b.get (key:=key) hi;obtain⟨o,ho,e2,k2⟩:=b.get (key:=key) hj;rw[k1,k2]at h;rw[ltAt'_eq];refine wpS_bind (wpS_get ?_);show wpS _ _ _ _ (do let u ← elem' (arrOf st) i;let v ← elem' (arrOf st) j;lt' u v) Q st;rw[elem'_eq,elem'_eq,e1,e2];refine wpS_bind (wpS_pure (wpS_bind (wpS_pure ?_)));rw[lt'_eq];refine wpS_bind (wpS_get ?_);rw[b.kd];refine wpS_bind (wpS_lift (wpAny_attempt (C r hr o ho _ _ ?_)));exact⟨rfl,wpS_pure h⟩
theorem Km{xs:Array Keyed}{i j:Nat}(hj:j<=xs.size)(k:Nat):kp key (mirror xs i j ((j-i) / 2)) k=if i<=k/\k<j then kp key xs (i+j-1-k) else kp key xs k:=by
 have e:=getElem?_mirror_all (i:=i) hj k;split at e
 ·rename_i c;rw[if_pos c];exact Uq e
 ·rename_i c;rw[if_neg c];exact Uq e
theorem Up.more{xs:Array Keyed}{n:Nat}(h:Up key xs n)(g:n=0\/Le (kp key xs (n-1)) (kp key xs n)):Up key xs (n+1):=by
 intro i j ij hj;by_cases c:j<n
 ·exact h i j ij c
 ·have e:j=n:=by lia
  subst e;by_cases d:i=j
  ·subst d;exact Le.rfl' _
  ·exact (h i (j-1) ∅ ∅).tr (g.resolve_left ∅)
theorem Up.one(xs:Array Keyed):Up key xs 1:=λi j ij hj=>by
 have:i=j:=by lia
 subst this;exact Le.rfl' _
theorem OB{st:SortSt}{a n:Nat}{Q:AscSt->SortSt->Prop}(C:XY prog w A s key z)(hn:n<=z.size)(ha:1<=a)(an:a<=n)(b:Ij z st)(u:Up key (arrOf st) a)
  (h:∀ m,a<=m->m<=n->Up key (arrOf st) m->(m=n\/¬ Le (kp key (arrOf st) (m-1)) (kp key (arrOf st) m))->Q (none,m) st):wpS (model prog w) A E s (ascLoop a n) Q st:=by
 unfold ascLoop;refine wpS_forRange (I:=λx c t=>t=st/\c=(none,x)/\Up key (arrOf st) x) ?pF ?wW ⟨V,u⟩
 case wW =>
  rintro c t ⟨rfl,rfl,u'⟩;have e:max a n=n:=by lia
  rw[e]at u' ⊢;exact h n an (fH _) u' (.inl rfl)
 case pF =>
  rintro x c t ax xn ⟨rfl,rfl,u'⟩;dsimp only;refine wpS_bind (cmp C b ∅ ∅ ?_)
  cases e:less (kp key (arrOf t) x) (kp key (arrOf t) (x-1)) with
  | true =>
   simp only[if_true];exact wpS_pure (h x ax ∅ u' (.inr (Wj e)))
  | false =>
   simp only[Bool.false_eq_true,if_false];exact wpS_pure ⟨V,u'.more (.inr (Wk e))⟩
theorem LM{st:SortSt}{Q:Option Nat->SortSt->Prop}(C:XY prog w A s key z)(hn:z.size=2)(b:Ij z st)(d:Le (kp key (arrOf st) 1) (kp key (arrOf st) 0))
  (h:∀ t,Ij z t->Up key (arrOf t) 2->Q (some 2) t):wpS (model prog w) A E s (descPart 1 2) Q st:=by
 unfold descPart;refine wpS_bind (wpS_lift (wpAny_rule ⟨rfl,?_⟩));unfold descLoop;refine wpS_bind (wpS_mono (wpS_forRange (I:=λ_ c t=>c=(none,2,0)/\t=st) (Q:=λc t=>c=(none,2,0)/\t=st) (λx c t a b=>by lia) (λ_ _ e=>e) ⟨V⟩) ?_);rintro c t ⟨rfl,rfl⟩;dsimp only;rw[if_neg (Nat.lt_irrefl 0)];unfold tail3;have hs:2<=(arrOf t).size:=by rw[b.sz,hn];exact fH _
 refine wpS_bind (wpS_reverse ?_);have b':=b.put (mirror_perm (arrOf t) 0 2 ((2-0) / 2));refine wpS_bind (OB C ∅ ∅ (fH 2) b' (λi j ij hj=>?_) λk k1 k2 u _=>?_)
 ·show Le (kp key (mirror (arrOf t) 0 2 ((2-0) / 2)) i) (kp key (mirror (arrOf t) 0 2 ((2-0) / 2)) j);rw[Km hs,Km hs,if_pos ⟨Q,Q⟩,if_pos ⟨Q,Q⟩];have ca:i=j\/(i=0/\j=1):=by lia
  rcases ca with rfl|⟨rfl,rfl⟩
  ·exact Le.rfl' _
  ·exact d
 ·have e:k=2:=by lia
  subst e;exact wpS_pure (h _ b' u)
theorem LN{st:SortSt}{Q:Option Nat->SortSt->Prop}(C:XY prog w A s key z)(hn:z.size=2)(b:Ij z st)
  (h:∀ t,Ij z t->Up key (arrOf t) 2->Q (some 2) t):wpS (model prog w) A E s (countRun' 0 2) Q st:=by
 rw[countRun0_eq];refine wpS_bind (OB C ∅ (fH 1) ∅ b (Up.one _) λm m1 mn u g=>?_);dsimp only;by_cases c:m=2
 ·subst c;exact wpS_pure (h st b u)
 ·have e:m=1:=by lia
  subst e;exact LM C hn b (Le.Wi (g.resolve_left c)) h
def Zx(key:Value->Int × Int)(z:Array Keyed)(st:SortSt):Prop:=(arrOf st).Perm z/\failedOf st=none/\pendingOf st=#[(0,2,0)]/\Up key (arrOf st) 2
theorem adU{st:SortSt}{Q:Unit->SortSt->Prop}(C:XY prog w A s key z)(b:Ij z st)(h2:2<=z.size)(XZ:z.size<3)
  (h:∀ t,(arrOf t).Perm z->failedOf t=none->Up key (arrOf t) z.size->Q () t):wpS (model prog w) A E s sortRuns' Q st:=by
 have zz:z.size=2:=by lia
 rw[zz]at h;rw[sortRuns'_eq];refine wpS_bind (wpS_get ?_);dsimp only;simp only[b.sz,zz];refine wpS_bind (wpS_mono (wpS_forRange (I:=λx c t=>(x=0/\c=(none,0)/\Ij z t)\/(1<=x/\c=(none,2)/\Zx key z t)) (Q:=λc t=>c=(none,2)/\Zx key z t) ?pF ?wW (.inl ⟨V,b⟩)) ?aft)
 case wW =>
  rintro c t (⟨x0,_,_⟩|⟨_,e,f⟩)
  ·lia
  ·exact⟨e,f⟩
 case pF =>
  rintro x c t _ xn (⟨rfl,rfl,b'⟩|⟨x1,rfl,f⟩)
  ·refine wpS_bind (LN C zz b' λt2 b2 u2=>?_);refine wpS_bind (wpS_get ?_);have p2:=b2.pd;rw[show (pendingOf t2).back?=none by rw[p2];rfl];refine wpS_bind (wpS_modify (wpS_pure (.inr ⟨Q,rfl,b2.pm,b2.fl,?_,u2⟩)));show (pendingOf t2).push _=_;rw[p2];rfl
  ·exact wpS_pure ⟨rfl,f⟩
 case aft =>
  rintro c t ⟨rfl,f⟩;dsimp only;refine wpS_bind (wpS_mono (wpS_forRange (I:=λ_ c t'=>t'=t/\c=(none,())) (Q:=λc t'=>t'=t/\c=(none,())) ?_ (λ_ _ e=>e) ⟨V⟩) ?_)
  ·rintro x c t' _ _ ⟨rfl,rfl⟩;refine wpS_bind (wpS_get ?_);rw[if_pos (by rw[f.2.2.1];exact fH 1)];exact wpS_pure ⟨V⟩
  ·rintro c t' ⟨rfl,rfl⟩;exact wpS_pure (h _ f.1 f.2.1 f.2.2.2)
theorem OC(v:Value):firstOfTuple' v=(do
  if (← typeOf v) != .type "tuple" then return none
  return (← Builtin.List.listItems v)[0]?):=rfl
theorem Ik{M:Model}{v:Value}{p:Int × Int}{Q:Option Value->Shared->Prop}(h:jG s.heap v p)(g:∀ t,Q (some (.int p.1 t)) s):wpAny M A (firstOfTuple' v) Q E s:=by
 obtain⟨a,t1,t2,rfl,ha⟩:=h;obtain⟨o,h1,h2,n,h3⟩:=id ha;rw[OC];refine wpAny_bind (wpAny_typeOf (T:="tuple") ⟨o,h1,h2⟩ ?_);have e:(Value.type "tuple" != Value.type "tuple")=false:=by rfl
 rw[e,if_neg gf];exact wpAny_bind (listItems_at h1 h3 (wpAny_pure (g t1)))
abbrev OD(h:Heap):List Value->List (Int × Int)->Prop:=Paired (jG h)
theorem OE{M:Model}:∀ {vs:List Value} {ps:List (Int × Int)} {Q:List (Option Value)->Shared->Prop},OD s.heap vs ps->(∀ us:List Value,IntsAre us (ps.map (·.1))->Q (us.map some) s)->wpAny M A (vs.mapM firstOfTuple') Q E s
 | _,_,_,.nil,g=>by
  rw[List.mapM_nil];exact wpAny_pure (g [] .nil)
 | _,_,_,.cons h r,g=>by
  rw[List.mapM_cons];refine wpAny_bind (Ik h λt=>wpAny_bind (OE r λus hu=>wpAny_pure ?_));exact g _ (.cons _ t hu)
theorem Il{M:Model}{vs:List Value}{ps:List (Int × Int)}{Q:SortKind->Shared->Prop}(h:OD s.heap vs ps)(n:vs≠[])(g:Q (tuples' true) s):wpAny M A (keyKind' vs.toArray) Q E s:=by
 rw[keyKind'_eq,List.mapM_toArray];refine wpAny_bind ?_;show wpAny M A (List.toArray <$> vs.mapM firstOfTuple') _ E s;rw[map_eq_pure_bind];refine wpAny_bind (OE h λus hu=>wpAny_pure ?_);have e1:(us.map some).toArray.all (·.isSome)=true:=by simp
 rw[if_pos e1];refine wpAny_bind (wpAny_rule ?_);have e2:(us.map some).toArray.filterMap id=us.toArray:=by simp
 rw[e2,oneTypeOnly'_eq,List.mapM_toArray,mapM_typeOf_ints hu];simp only[map_pure,pure_bind]
 have un:us≠[]:=by
  intro z;subst z
  cases h with
  | nil=>exact n rfl
  | cons _ _=>cases hu
 obtain⟨u0,ur,rfl⟩:=List.exists_cons_of_ne_nil un;have e3:(List.map (λ_=>Value.type "int") (u0::ur)).toArray[0]?=some (Value.type "int"):=by simp
 rw[e3]
 have e4:((List.map (λ_=>Value.type "int") (u0::ur)).toArray.all λx=>x == Value.type "int")=true:=by
  simp only[List.all_toArray,List.all_map,List.all_eq_true];intro _ _;rfl
 simp only[e4,if_true];refine wpAny_bind (wpAny_pure (wpAny_pure ?_));exact g
theorem jG.inj{h:Heap}{v:Value}{p q:Int × Int}(a:jG h v p)(b:jG h v q):p=q:=by
 obtain⟨x,t1,t2,rfl,o,h1,_,n,h3⟩:=a;obtain⟨y,u1,u2,e,o',g1,_,m,g3⟩:=b;cases e;rw[h1]at g1;cases g1;rw[h3]at g3;injection g3 with g4 _;have g5:=congrArg Array.toList g4;injection g5 with g6 g7;injection g7 with g8 _;injection g6 with g9 _;injection g8 with g10 _;exact Prod.ext g9 g10
open Classical in
noncomputable def iL (h:Heap) (v:Value):Int × Int:=if c:∃ p,jG h v p then c.choose else (0,0)
theorem oV{h:Heap}{v:Value}{p:Int × Int}(a:jG h v p):iL h v=p:=by
 have c:∃ p,jG h v p:=⟨p,a⟩;unfold iL;rw[dif_pos c];exact c.choose_spec.inj a
theorem jG.keep{h h':Heap}{v:Value}{p:Int × Int}(a:jG h v p)(k:∀ b o,o.cls=.type "tuple"->h.get? b=some o->h'.get? b=some o):jG h' v p:=by
 obtain⟨x,t1,t2,e,o,h1,h2,r⟩:=a;exact⟨x,t1,t2,e,o,k x o h2 h1,h2,r⟩
theorem OD.mem{h:Heap}:∀ {vs:List Value} {ps:List (Int × Int)} {v:Value},OD h vs ps->v∈vs->∃ p,jG h v p
 | _,_,_,.nil,m=>by cases m
 | _,_,_,.cons a r,m=>by
  rcases List.mem_cons.mp m with e|e
  ·exact⟨_,by rw[e];exact a⟩
  ·exact OD.mem r e
theorem yW{vs:List Value}{r:Value × Value}(h:r∈vs.zip vs):r.1∈vs/\r.2=r.1:=by
 obtain⟨i,hi,e⟩:=List.getElem_of_mem h;rw[List.getElem_zip]at e;rw[← e];exact⟨List.getElem_mem _,rfl⟩
theorem yz{a:Addr}{vs:List Value}{ps:List (Int × Int)}{n:Nat}{P:Fin->Shared->Prop}(hl:s.heap.get? a=some (seqObj "list" vs.toArray n))(hp:OD s.heap vs ps)(XZ:vs.length<3)
  (jN:∀ st:SortSt,(arrOf st).Perm (pairsOf vs)->Up (iL s.heap) (arrOf st) (pairsOf vs).size->P (.done (.ret .none)) { s with heap:=sortedHeap s.heap a vs ((arrOf st).map (·.2)) }) :
  wpAny (model prog w) A (Builtin.«list.sort» ⟨[.ref a],[]⟩) P E s:=by
 rw[list_sort_plain];have al:a<s.heap.objs.size:=Heap.lt_size hl;refine wpAny_bind (listItems_at hl rfl ?_);refine wpAny_bind (listUpdate_at hl rfl ?_);obtain⟨c1,RG⟩:∃ c1,(s.heap.update a (Obj.mapSeq λ_=>#[])).get? a=some (seqObj "list" #[] c1):=⟨_,get?_update_seq hl (λ_=>#[])⟩;refine wpAny_bind (seqEpoch_at RG rfl ?_);refine wpAny_bind (wpAny_newTuple (wpAny_bind (wpAny_newList (wpAny_holding ?_))));generalize hg:((s.heap.update a (Obj.mapSeq λ_=>#[])).push (seqObj "tuple" vs.toArray 0)).push (seqObj "list" #[] 0)=g
 have ga:g.get? a=some (seqObj "list" #[] c1):=by
  rw[← hg,Heap.get?_push_ne _ _ _ (by rw[size_push',Heap.size_update];exact jS (Nat.lt_succ_of_lt al)),Heap.get?_push_ne _ _ _ (by rw[Heap.size_update];exact jS al)];exact RG
 have gk:∀ b o,o.cls=.type "tuple"->s.heap.get? b=some o->g.get? b=some o:=λb o oc ob=>by
  have nb:b≠a:=λz=>by
   rw[z,hl]at ob;cases ob;have q:Value.type "list"=Value.type "tuple":=oc;simp at q
  rw[← hg];exact Heap.get?_push_of_some _ (Heap.get?_push_of_some _ (by rw[Heap.get?_update_ne _ _ _ _ nb];exact ob))
 have sh:sortedHeap s.heap a vs=λwW=>g.update a (Obj.mapSeq λ_=>wW):=by rw[← hg];rfl
 rw[sh]at jN;dsimp only;have vz:vs.toArray.size=vs.length:=by simp
 by_cases h2:vs.toArray.size<2
 ·rw[if_pos h2,if_pos h2];refine wpAny_bind (wpAny_pure ?_);rw[StateT.run_pure];refine wpAny_bind (wpAny_pure ?_);dsimp only;refine wpAny_bind (seqEpoch_at ga rfl (wpAny_bind (listUpdate_at ga rfl ?_ (hsz2:=by rw[Array.size_map];show (pairsOf vs).size<=_;rw[pairsOf_size,sizeLine_eq];lia))));simp only[bne_self_eq_false,Bool.false_eq_true,if_false];refine wpAny_pure (jN (SortSt.mk' general' (vs.toArray.zip vs.toArray) #[] 7 none) (Array.Perm.refl _) λi j ij hj=>?_);have:i=j:=by rw[pairsOf_size]at hj;lia
  subst this;exact Le.rfl' _
 ·rw[if_neg h2,if_neg h2];have vn:vs≠[]:=λz=>by rw[z]at h2;simp at h2
  have MX:OD g vs ps:=L2.Paired.CH hp λv p q=>q.keep gk;refine wpAny_bind (Il (s:={ s with heap:=g }) MX vn ?_)
  have can:XY prog w A { s with heap:=g } (iL s.heap) (pairsOf vs):=λr hr o ho E' Q' h'=>by
   rw[pairsOf_toList]at hr ho;obtain⟨p,RH⟩:=hp.mem (yW hr).1;obtain⟨q,LO⟩:=hp.mem (yW ho).1;rw[oV RH,oV LO]at h';exact Ii (RH.keep gk) (LO.keep gk) h'
  refine wpAny_bind (wpAny_mono (adU (key:=iL s.heap) (z:=pairsOf vs) (st:=SortSt.mk' (tuples' true) (vs.toArray.zip vs.toArray) #[] 7 none) (Q:=λ_ t=>(arrOf t).Perm (pairsOf vs)/\failedOf t=none/\Up (iL s.heap) (arrOf t) (pairsOf vs).size) can ⟨Array.Perm.refl _,V,rfl⟩ (by rw[pairsOf_size];lia) (by rw[pairsOf_size];exact XZ) λt a1 a2 a3=>⟨a1,a2,a3⟩) ?_ λ_ _ e=>e);rintro⟨⟨⟩,t⟩ s' ⟨rfl,pm,fl,up⟩;dsimp only;refine wpAny_bind (seqEpoch_at ga rfl (wpAny_bind (listUpdate_at ga rfl ?_ (hsz2:=by refine gR (Nat.le_of_eq ((Array.size_map ..).trans (pm.size_eq.trans (pairsOf_size _)))) ?_;rw[sizeLine_eq];lia))));rw[fl];simp only[bne_self_eq_false,Bool.false_eq_true,if_false];exact wpAny_pure (jN t pm up)
theorem Di{l:Addr}{vs:List Value}{ps:List (Int × Int)}{Q:Value->Shared->Prop}(hl:s.heap.IsList l vs.toArray)(hp:OD s.heap vs ps)(XZ:vs.length<3)
  (jN:∀ st:SortSt,(arrOf st).Perm (pairsOf vs)->Up (iL s.heap) (arrOf st) (pairsOf vs).size->Q (.ref (s.heap.objs.size+1)) { s with heap:=sortedAll s.heap vs ((arrOf st).map (·.2)) }) :
  wpAny (model prog w) A (call (.builtin "sorted") [.ref l]) Q E s:=by
 refine Calls.call_function_entry kind_sorted plain_sorted entry_sorted (args_sorted1 _) ?_;unfold Builtin.«sorted»;refine wpAny_bind (m:=checkCount "sorted" 1 1 _) (wpAny_pure ?_);refine wpAny_bind (collect_list hl ?_ (by have:=(show (3:Nat)<=sizeLine by decide);lia));refine wpAny_bind (wpAny_newList ?_);generalize hg:(s.heap.push (seqObj "list" #[] 0)).update s.heap.objs.size (Obj.mapSeq (·++vs.toArray))=g;have gz:g.objs.size=s.heap.objs.size+1:=by rw[← hg,Heap.size_update,size_push']
 have gk:∀ b o,s.heap.get? b=some o->g.get? b=some o:=λb o ob=>by
  have lt:=Heap.lt_size ob;rw[← hg,Heap.get?_update_ne _ _ _ _ (jS lt)];exact Heap.get?_push_of_some _ ob
 have kk:∀ b o,s.heap.get? b=some o->(g.push (seqObj "list" vs.toArray 0)).get? b=some o:=λb o ob=>Heap.get?_push_of_some _ (gk b o ob);have at1:(g.push (seqObj "list" vs.toArray 0)).get? (s.heap.objs.size+1)=some (seqObj "list" vs.toArray 0):=by rw[← gz];exact Heap.get?_push_size _ rfl
 show wpAny _ _ _ _ _ { s with heap:=g.push (seqObj "list" vs.toArray 0) };rw[gz];have MX:OD (g.push (seqObj "list" vs.toArray 0)) vs ps:=L2.Paired.CH hp λv p q=>q.keep λb o _ ob=>kk b o ob
 have ke:∀ v∈vs,iL (g.push (seqObj "list" vs.toArray 0)) v=iL s.heap v:=λv hv=>by
  obtain⟨p,q⟩:=hp.mem hv;rw[oV q,oV (q.keep λb o _ ob=>kk b o ob)]
 refine wpAny_bind (wpAny_holding (wpAny_call_entry slot_list_sort ⟨_,at1,rfl⟩ entry_list_sort (yz (s:={ s with heap:=g.push (seqObj "list" vs.toArray 0) }) at1 MX XZ λst pm up=>⟨Y,wpAny_pure ⟨Y,?_⟩⟩) (args_list_sort _)))
 have up':Up (iL s.heap) (arrOf st) (pairsOf vs).size:=λi j ij hj=>by
  have e:∀ k,k<(pairsOf vs).size->kp (iL s.heap) (arrOf st) k=kp (iL (g.push (seqObj "list" vs.toArray 0))) (arrOf st) k:=λk hk=>by
   have hk2:k<(arrOf st).size:=by rw[pm.size_eq];exact hk
   have mm:(arrOf st)[k]∈(pairsOf vs).toList:=(Array.perm_iff_toList_perm.mp pm).mem_iff.mp (by simp);rw[pairsOf_toList]at mm;unfold kp;rw[getElem?_pos _ k hk2];show iL s.heap _=iL _ _;rw[ke _ (yW mm).1]
  rw[e i ∅,e j hj];exact up i j ij hj
 have z:=jN st pm up';unfold sortedAll at z;rw[hg]at z;exact z
end
end RE
namespace gx
open Spec Rows L2 cX fO zQ RE
theorem zU{X:Cx}{σ:L2.St}{H:Hp}{s:Shared}(I:L2.Inv X ao σ H s):∀ {as:List Addr} {row:Row},bg H as row->OD s.heap (as.map Value.ref) row
 | _,_,.nil=>.nil
 | _,_,.cons (a:=a) (b:=p) h r=>by
  refine .cons ?_ (zU I r);obtain⟨aL,vr,pl,_⟩:=I.tuple (cY.of h);obtain⟨o,h1,h2,n,h3⟩:=pl
  cases vr with
  | cons e1 vr =>
   cases vr with
   | cons e2 vr =>
    cases vr;obtain⟨t1,rfl⟩:=e1;obtain⟨t2,rfl⟩:=e2;exact⟨a,t1,t2,rfl,o,h1,h2,n,h3⟩
theorem Cc:∀ {as:List Addr} {aL:List Value},cA (as.map V.ref) aL->aL=as.map Value.ref
 | [],_,.nil=>rfl
 | _::as,_,.cons e r=>by
  cases e;rw[Cc r];rfl
theorem Cd:∀ as:List Addr,cA (as.map V.ref) (as.map Value.ref)
 | []=>.nil
 | _::as=>.cons rfl (Cd as)
def X0:Value->Addr
 | .ref a=>a
 | _=>0
theorem bg.OF{H:Hp}:∀ {as:List Addr} {row:Row} {a:Addr},bg H as row->a∈as->∃ p,lE H a p
 | _,_,_,.nil,m=>by cases m
 | _,_,_,.cons h r,m=>by
  rcases List.mem_cons.mp m with e|e
  ·exact⟨_,by rw[e];exact h⟩
  ·exact bg.OF r e
theorem Dj{X:Cx}:jV X (.builtin "sorted") (λxs H Q=>∃ (p:Addr) (as:List Addr) (row:Row),xs=[.ref p]/\H p=some (.lst (as.map V.ref))/\bg H as row/\row.length<3/\
  ∀ (l:Addr) (bs:List Addr) (Ff:Row),H l=none->Ff.Perm row->Ff.Pairwise Le->bg H bs Ff->Q (.ref l) (aM H l (.lst (bs.map V.ref)))):=by
 intro ao s σ H xs us Q I r h;obtain⟨p,as,row,rfl,hH,hp,XZ,q⟩:=h;obtain⟨u,rfl,rx⟩:=vals1 r;cases rx;obtain⟨z,aL,n,rv,hl,e⟩:=I.zu hH;have ei:=Cc rv;subst ei;have pr:=zU I hp;have al:=hp.len;have v64:(as.map Value.ref).length<3:=by rw[cz,al];exact XZ
 refine Di (vs:=as.map Value.ref) ⟨_,e,rfl,n,rfl⟩ pr v64 λst pm up=>?_;have pl:=Array.perm_iff_toList_perm.mp pm;rw[pairsOf_toList]at pl
 have each:∀ x∈(arrOf st).toList,∃ a∈as,x.1=.ref a/\x.2=.ref a/\lE H a (iL s.heap x.1):=λx hx=>by
  obtain⟨m1,m2⟩:=yW (pl.mem_iff.mp hx);obtain⟨a,ha,ea⟩:=List.mem_map.mp m1;obtain⟨pa,hpa⟩:=hp.OF ha;have k1:=zU I (.cons hpa .nil:bg H [a] [pa])
  cases k1 with
  | cons k1 _ =>
   refine⟨a,ha,ea.symm,by rw[m2,ea],?_⟩;rw[← ea,oV k1];exact hpa
 have adX:((arrOf st).map (·.2)).toList=((arrOf st).toList.map λx=>X0 x.1).map Value.ref:=by
  rw[Array.toList_map,List.map_map];refine List.map_congr_left λx hx=>?_;obtain⟨a,_,e1,e2,_⟩:=each x hx;show x.2=Value.ref (X0 x.1);rw[e1,e2];rfl
 have pairs:∀ L:List Keyed,(∀ x∈L,∃ a∈as,x.1=.ref a/\x.2=.ref a/\lE H a (iL s.heap x.1))->bg H (L.map λx=>X0 x.1) (L.map λx=>iL s.heap x.1):=by
  intro L
  induction L with
  | nil=>intro _;exact .nil
  | cons x L ih =>
   intro g;obtain⟨a,_,e1,_,e3⟩:=g x (by simp);refine .cons ?_ (ih λy hy=>g y (mE _ hy));rw[e1]at e3;show lE H (X0 x.1) (iL s.heap x.1);rw[e1];exact e3
 have AY:∀ {vs:List Value} {row:Row},OD s.heap vs row->(vs.zip vs).map (λx=>iL s.heap x.1)=row:=by
  intro vs
  induction vs with
  | nil=>intro row h;cases h;rfl
  | cons v vs ih =>
   intro row h
   cases h with
   | cons h1 h2 =>
    rw[List.zip_cons_cons,jv,ih h2,oV h1]
 have RI:((arrOf st).toList.map λx=>iL s.heap x.1).Perm row:=by
  have z2:=pl.map λx=>iL s.heap x.1;rw[AY pr]at z2;exact z2
 have srt:((arrOf st).toList.map λx=>iL s.heap x.1).Pairwise Le:=by
  rw[List.pairwise_iff_getElem];intro i j hi hj hij;rw[cz,Array.length_toList]at hi hj;have z3:=up i j (gM hij) (by rw[← pm.size_eq];exact hj);unfold kp at z3;rw[getElem?_pos _ i hi,getElem?_pos _ j hj]at z3;simpa using z3
 obtain⟨c,hc⟩:=sortedAll_at s.heap (as.map Value.ref) ((arrOf st).map (·.2))
 have ll:((arrOf st).toList.map λx=>X0 x.1).length<=sizeLine:=by
  rw[cz,Array.length_toList,pm.size_eq,pairsOf_size];have:(64:Nat)<=sizeLine:=by decide
  lia
 refine⟨.ref (s.heap.objs.size+1),_,I.laid (t':=s.toks) (λb o ob=>sortedAll_old ob) (Nat.le_succ _) (show fR X.prog X.w _ _ _ (.lst (((arrOf st).toList.map λx=>X0 x.1).map V.ref)) from ⟨by rw[cz];exact ll,_,c,Cd _,?_⟩),rfl,q _ _ _ (I.hok.fresh (Nat.le_succ _)) RI srt (pairs _ each)⟩;rw[hc,← adX]
end gx
namespace gx
open Spec Rows L2 cX fO zQ RE
def In(r:Row)(x:Int):Prop:=∃ p∈r,p.1<=x/\x<p.2
def Ok(r:Row):Prop:=∀ p∈r,p.1<=p.2
theorem yX:∀ {n:Nat} {s x:Int},x∈run s n↔s<=x/\x<s+n
 | 0,s,x=>by simp[run]
 | n+1,s,x=>by
  rw[run,List.mem_cons,yX];lia
theorem kK{p:Int × Int}{x:Int}:x∈fN p↔p.1<=x/\x<p.2:=by
 unfold fN;rw[yX];lia
theorem sL{r:Row}{x:Int}:x∈bu r↔In r x:=by
 unfold bu In;rw[List.mem_flatMap];exact⟨λ⟨p,a,b⟩=>⟨p,a,kK.mp b⟩,λ⟨p,a,b⟩=>⟨p,a,kK.mpr b⟩⟩
theorem Dk{x:Int}:¬ In [] x:=λ⟨_,h,_⟩=>by cases h
theorem sM{r q:Row}{x:Int}:In (r++q) x↔In r x\/In q x:=by
 unfold In;constructor
 ·rintro⟨p,hp,h⟩;exact (List.mem_append.mp hp).elim (λz=>.inl ⟨p,z,h⟩) λz=>.inr ⟨p,z,h⟩
 ·rintro (⟨p,hp,h⟩|⟨p,hp,h⟩)
  ·exact⟨p,qE _ hp,h⟩
  ·exact⟨p,oN _ hp,h⟩
theorem Im{p:Int × Int}{x:Int}:In [p] x↔p.1<=x/\x<p.2:=by
 unfold In;constructor
 ·rintro⟨q,hq,h⟩;rw[List.mem_singleton.mp hq]at h;exact h
 ·intro h;exact⟨p,by simp,h⟩
theorem RJ{r q:Row}(h:r.Perm q){x:Int}:In r x↔In q x:=by
 unfold In;constructor
 ·rintro⟨p,hp,g⟩;exact⟨p,h.mem_iff.mp hp,g⟩
 ·rintro⟨p,hp,g⟩;exact⟨p,h.mem_iff.mpr hp,g⟩
theorem OG{r:Row}(ok:Ok r){x:Int}:In (bZ r) x↔In r x:=by rw[← sL,← sL,jo r ok]
def LP(r:Row):Prop:=r.Pairwise (λp q=>p.2<q.1)/\∀ p∈r,p.1<p.2
def eO(t:Row)(p:Int × Int):Row :=
 match t.getLast? with
 | some l=>if p.1<=l.2 then t.dropLast++[(l.1,if p.2 > l.2 then p.2 else l.2)] else t++[p]
 | none=>t++[p]
theorem uM(t:Row){l p:Int × Int}(h:p.1<=l.2):eO (t++[l]) p=t++[(l.1,if p.2 > l.2 then p.2 else l.2)]:=by
 unfold eO;rw[jR];show (if p.1<=l.2 then (t++[l]).dropLast++[(l.1,if p.2 > l.2 then p.2 else l.2)] else _)=_;rw[if_pos h,List.dropLast_concat]
theorem uN(t:Row){l p:Int × Int}(h:¬ p.1<=l.2):eO (t++[l]) p=t++[l]++[p]:=by
 unfold eO;rw[jR];show (if p.1<=l.2 then (t++[l]).dropLast++[(l.1,if p.2 > l.2 then p.2 else l.2)] else t++[l]++[p])=_;rw[if_neg h]
theorem OH(L:Row):∀ t:Row,(L.foldl eO t).length<=t.length+L.length:=by
 induction L with
 | nil=>intro t;simp
 | cons p L ih =>
  intro t;rw[kq,lR];have a:=ih (eO t p)
  have b:(eO t p).length<=t.length+1:=by
   rcases nB t with rfl|⟨t',q,rfl⟩
   ·exact fH _
   ·rw[kX];by_cases c:p.1<=q.2
    ·rw[uM _ c,cP,cP,qD,qD];lia
    ·rw[uN _ c,cP,cP];exact fH _
  lia
theorem RK:∀ (L t:Row),L.Pairwise Le->(∀ p∈L,p.1<p.2)->LP t->(∀ l∈t.getLast?,∀ p∈L,l.1<=p.1)->LP (L.foldl eO t)/\∀ x,In (L.foldl eO t) x↔In t x\/In L x:=by
 intro L
 induction L with
 | nil=>intro t _ _ h _;exact⟨h,λx=>⟨.inl,λz=>z.elim id λw=>absurd w Dk⟩⟩
 | cons p L ih =>
  intro t hs hp ht hl;obtain⟨s1,s2⟩:=List.pairwise_cons.mp hs;have pp:=hp p (by simp);have lo:∀ q∈L,p.1<=q.1:=λq hq=>by have:=s1 q hq;unfold Le at this;lia
  have step:LP (eO t p)/\(∀ x,In (eO t p) x↔In t x\/In [p] x)/\∀ l∈(eO t p).getLast?,l.1<=p.1:=by
   rcases nB t with rfl|⟨t',q,rfl⟩
   ·refine⟨⟨by simp[eO],λr hr=>by rw[List.mem_singleton.mp hr];exact pp⟩,λx=>?_,λl h=>?_⟩
    ·show In [p] x↔_;exact⟨.inr,λz=>z.elim (λw=>absurd w Dk) id⟩
    ·have:p=l:=by simpa [eO] using h
     rw[← this];exact Int.le_refl _
   ·rw[kX]at ht hl ⊢;obtain⟨h1,h2⟩:=ht;obtain⟨p1,p2,p3⟩:=List.pairwise_append.mp h1;have qq:=h2 q (by simp);have ql:=hl q (by rw[jR];rfl) p (by simp);by_cases c:p.1<=q.2
    ·rw[uM _ c];refine⟨⟨List.pairwise_append.mpr ⟨p1,by simp,λa ha b hb=>?_⟩,λr hr=>?_⟩,λx=>?_,λl h=>?_⟩
     ·rw[List.mem_singleton.mp hb];exact p3 a ha q (by simp)
     ·rcases List.mem_append.mp hr with e|e
      ·exact h2 r (qE _ e)
      ·rw[List.mem_singleton.mp e];show q.1<(if p.2 > q.2 then p.2 else q.2)
       split <;> lia
     ·rw[sM,sM,Im,Im,Im];show In t' x\/(q.1<=x/\x<(if p.2 > q.2 then p.2 else q.2))↔_;constructor
      ·rintro (z|z)
       ·exact .inl (.inl z)
       ·by_cases d:x<q.2
        ·exact .inl (.inr ⟨z.1,d⟩)
        ·refine .inr ⟨Q,?_⟩;have:=z.2
         split at this <;> lia
      ·rintro ((z|z)|z)
       ·exact .inl z
       ·refine .inr ⟨z.1,?_⟩
        split <;> lia
       ·refine .inr ⟨Q,?_⟩
        split <;> lia
     ·rw[jR]at h;have:(q.1,if p.2 > q.2 then p.2 else q.2)=l:=by simpa using h
      rw[← this];exact ql
    ·rw[uN _ c];refine⟨⟨List.pairwise_append.mpr ⟨h1,by simp,λa ha b hb=>?_⟩,λr hr=>?_⟩,λx=>sM,λl h=>?_⟩
     ·rw[List.mem_singleton.mp hb];rcases List.mem_append.mp ha with e|e
      ·have:=p3 a e q (by simp);lia
      ·rw[List.mem_singleton.mp e];lia
     ·rcases List.mem_append.mp hr with e|e
      ·exact h2 r e
      ·rw[List.mem_singleton.mp e];exact pp
     ·rw[jR]at h;have:p=l:=by simpa using h
      rw[← this];exact Int.le_refl _
  obtain⟨r1,r2⟩:=ih (eO t p) s2 (λq hq=>hp q (mE _ hq)) step.1 λl h q hq=>Int.le_trans (step.2.2 l h) (lo q hq);refine⟨r1,λx=>?_⟩;rw[kq,r2,step.2.1];have e:In (p::L) x↔In [p] x\/In L x:=sM (r:=[p]) (q:=L);rw[e];exact or_assoc
theorem LQ{L row:Row}(h:L.Perm row)(g:L.Pairwise Le)(ok:∀ p∈row,p.1<p.2):LP (L.foldl eO [])/\∀ x,In (L.foldl eO []) x↔In row x:=by
 obtain⟨a,b⟩:=RK L [] g (λp hp=>ok p (h.mem_iff.mp hp)) ⟨.nil,λp hp=>by cases hp⟩ (λl hl=>by simp at hl);refine⟨a,λx=>?_⟩;rw[b,RJ h];exact⟨λz=>z.elim (λw=>absurd w Dk) id,.inr⟩
end gx
namespace gx
open Spec Rows L2 cX fO zQ RE
def Dl(r:Row)(x:Int):Bool:=r.any λp=>decide (p.1<=x)&&decide (x<p.2)
theorem nM{r:Row}{x:Int}:Dl r x=true↔In r x:=by
 unfold Dl In;rw[List.any_eq_true];constructor
 ·rintro⟨p,hp,h⟩;rw[Bool.and_eq_true]at h;exact⟨p,hp,of_decide_eq_true h.1,of_decide_eq_true h.2⟩
 ·rintro⟨p,hp,h1,h2⟩;exact⟨p,hp,by rw[Bool.and_eq_true];exact⟨decide_eq_true h1,decide_eq_true h2⟩⟩
def iM(r:Row)(xs:List Int):List Int:=xs.filter λx=>!Dl r x
theorem xm{r:Row}{xs:List Int}(h:∀ x∈xs,¬ In r x):iM r xs=xs:=by
 unfold iM;rw[List.filter_eq_self];intro x hx
 cases e:Dl r x with
 | false=>rfl
 | true=>exact absurd (nM.mp e) (h x hx)
theorem Io{r:Row}{xs:List Int}(h:∀ x∈xs,In r x):iM r xs=[]:=by
 unfold iM;rw[List.filter_eq_nil_iff];intro x hx;rw[nM.mpr (h x hx)];simp
theorem rG{r q:Row}{xs:List Int}(h:∀ x∈xs,In r x↔In q x):iM r xs=iM q xs:=by
 unfold iM;refine List.filter_congr λx hx=>?_
 cases e:Dl r x with
 | true=>rw[nM.mpr ((h x hx).mp (nM.mp e))]
 | false =>
  cases e2:Dl q x with
  | true=>rw[nM.mpr ((h x hx).mpr (nM.mp e2))]at e;cases e
  | false=>rfl
theorem vG(r:Row)(a b:List Int):iM r (a++b)=iM r a++iM r b:=by unfold iM;rw[List.filter_append]
def lo(b:Int):Int->Row->Row
 | l,[]=>[(l,b)]
 | l,p::r=>if p.1<b then (l,if p.1 > l then p.1 else l)::lo b (if b<p.2 then b else p.2) r else [(l,b)]
theorem Fg{a b c:Int}(h:a<=b)(g:b<=c):fN (a,c)=fN (a,b)++fN (b,c):=by
 unfold fN;show run a (c-a).toNat=run a (b-a).toNat++run b (c-b).toNat;have e:(c-a).toNat=(b-a).toNat+(c-b).toNat:=by lia
 rw[e]
 have z:∀ (n m:Nat) (s:Int),run s (n+m)=run s n++run (s+n) m:=by
  intro n
  induction n with
  | zero=>intro m s;simp[run]
  | succ n ih =>
   intro m s;rw[Nat.succ_add,run,run,ih,List.cons_append];congr 3;lia
 rw[z];congr 2;lia
theorem Ur(b:Int):∀ (r:Row) (l:Int),l<=b->(∀ p∈r,l<p.2)->LP r->Ok (lo b l r)/\bu (lo b l r)=iM r (fN (l,b))/\(∀ p∈lo b l r,l<=p.1)
 | [],l,h,_,_=>by
  refine⟨λp hp=>?_,?_,λp hp=>?_⟩
  ·rw[List.mem_singleton.mp hp];exact h
  ·rw[xm λx _=>Dk];exact eV _
  ·rw[List.mem_singleton.mp hp];exact Int.le_refl _
 | p::r,l,h,g,R=>by
  rw[lo];have pp:=R.2 p (by simp);have lp:=g p (by simp);obtain⟨r1,r2⟩:=List.pairwise_cons.mp R.1;by_cases c:p.1<b
  ·rw[if_pos c];obtain⟨m,hm⟩:∃ m,m=(if p.1 > l then p.1 else l):=⟨Y⟩;obtain⟨k,hk⟩:∃ k,k=(if b<p.2 then b else p.2):=⟨Y⟩;rw[← hm,← hk]
   have m1:l<=m/\m<=k/\k<=b/\p.1<=m/\k<=p.2/\(m=l\/m=p.1)/\(k=b\/k=p.2):=by
    rw[hm,hk]
    split <;> split <;> lia
   obtain⟨i1,i2,i3⟩:=Ur b r k m1.2.2.1 (λq hq=>by have:=r1 q hq;have:=R.2 q (mE _ hq);lia) ⟨r2,λq hq=>R.2 q (mE _ hq)⟩;refine⟨λq hq=>?_,?_,λq hq=>?_⟩
   ·rcases List.mem_cons.mp hq with e|e
    ·rw[e];exact m1.1
    ·exact i1 q e
   ·have e:bu ((l,m)::lo b k r)=fN (l,m)++bu (lo b k r):=by unfold bu;rw[je]
    rw[e,i2,Fg (a:=l) (b:=m) (c:=b) m1.1 ∅,Fg (a:=m) (b:=k) (c:=b) m1.2.1 m1.2.2.1,vG,vG]
    have o1:iM (p::r) (fN (l,m))=fN (l,m):=xm λx hx=>by
     have hx':=kK.mp hx;rintro⟨q,hq,q1,q2⟩;rcases List.mem_cons.mp hq with e2|e2
     ·rw[e2]at q1;simp only at hx';lia
     ·have:=r1 q e2;simp only at hx';lia
    have o2:iM (p::r) (fN (m,k))=[]:=Io λx hx=>⟨p,by simp,by have:=(kK.mp hx).1;simp only at this;lia,by have:=(kK.mp hx).2;simp only at this;lia⟩
    have o3:iM (p::r) (fN (k,b))=iM r (fN (k,b)):=rG λx hx=>by
     have hx':=kK.mp hx;simp only at hx';constructor
     ·rintro⟨q,hq,q1,q2⟩;rcases List.mem_cons.mp hq with e2|e2
      ·rw[e2]at q2;lia
      ·exact⟨q,e2,q1,q2⟩
     ·rintro⟨q,hq,z⟩;exact⟨q,mE _ hq,z⟩
    rw[o1,o2,o3,List.nil_append]
   ·rcases List.mem_cons.mp hq with e|e
    ·rw[e];exact Int.le_refl _
    ·have:=i3 q e;lia
  ·rw[if_neg c];refine⟨λq hq=>?_,?_,λq hq=>?_⟩
   ·rw[List.mem_singleton.mp hq];exact h
   ·rw[xm λx hx=>?_]
    ·exact eV _
    ·have hx':=kK.mp hx;simp only at hx';rintro⟨q,hq,q1,q2⟩;rcases List.mem_cons.mp hq with e2|e2
     ·rw[e2]at q1;lia
     ·have:=r1 q e2;lia
   ·rw[List.mem_singleton.mp hq];exact Int.le_refl _
theorem OI(b:Int):∀ (r:Row) (l:Int),(lo b l r).length<=r.length+1
 | [],_=>fH _
 | p::r,l=>by
  rw[lo];split
  ·rw[lR,lR];have:=OI b r (if b<p.2 then b else p.2);lia
  ·simp
def Fst(bK:Row)(x:Int)(n:Nat):Prop:=n<=bK.length/\(∀ i p,bK[i]?=some p->i<n->p.2<=x)/\∀ i p,bK[i]?=some p->n<=i->x<p.2
theorem Fst.drop{bK:Row}{x:Int}{n:Nat}(h:Fst bK x n):(∀ p∈bK.drop n,x<p.2)/\∀ y,x<=y->(In bK y↔In (bK.drop n) y):=by
 refine⟨λp hp=>?_,λy hy=>⟨λz=>?_,λz=>?_⟩⟩
 ·obtain⟨i,hi⟩:=List.getElem?_of_mem hp;rw[List.getElem?_drop]at hi;exact h.2.2 _ p hi ∅
 ·obtain⟨p,hp,a,b⟩:=z;obtain⟨i,hi⟩:=List.getElem?_of_mem hp;by_cases c:i<n
  ·have:=h.2.1 i p hi c;lia
  ·refine⟨p,pA (i:=i-n) ?_,a,b⟩;rw[List.getElem?_drop,show n+(i-n)=i by lia];exact hi
 ·obtain⟨p,hp,q⟩:=z;exact⟨p,List.mem_of_mem_drop hp,q⟩
theorem LP.drop{r:Row}(h:LP r)(n:Nat):LP (r.drop n):=⟨h.1.drop,λp hp=>h.2 p (List.mem_of_mem_drop hp)⟩
class inductive OJ
 | mk (r:Addr) (row:Row) (_:vs=[.ref r]) (_:ck H r row) (_:row.length<3) (_:Ok row) (_ :
 ∀ (q:Addr) (R:Row) (H':Hp),ck H' q R->LP R->(∀ x,In R x↔In row x)->R.length<=row.length->aK H H'->H q=none->Q (.ref q) H')
class inductive RM
 | mk (r:Addr) (bK:Row) (x:Int) (_:vs=[.ref r,.int x]) (_:ck H r bK) (_:LP bK) (_: ∀ n:Nat,Fst bK x n->Q (.int n) H)
class inductive Wl
 | mk (r:Addr) (bK:Row) (a b:Int) (_:vs=[.int a,.int b,.ref r]) (_:ck H r bK) (_:LP bK) (_:bK.length<=100000) (_:a<=b) (_ :
 ∀ (q:Addr) (L:Row) (H':Hp),ck H' q L->Ok L->bu L=iM bK (fN (a,b))->(∀ p∈L,a<=p.1)->L.length<=bK.length+1->aK H H'->H q=none->Q (.ref q) H')
end gx
namespace gx
open Spec Rows L2 cX fO zQ Wh
structure dZ(K:Frag)(C:Addr)(m fJ:Str)(st:Stmt)(ps:List Str)(a:Addr)(d:FuncData):Prop where
 F:Q9 K m fJ st a d
 b:Binds K d ps []
 mt:Nv K C m a
structure ClsAt(K:Frag)(mg:Str->Option Value)(x:Str)(C fi:Addr):Prop where
 cl:MS K C
 m:mg x=some (.ref C)
 Wm:Mk K C fi
end gx
namespace gx
open L2 cX fO
section
variable {p:List Value->Prop}
theorem us0(h:p []):∀ us:List Value,us.length=0->p us:=λus e=>by rw[List.length_eq_zero_iff.mp e];exact h
theorem X3{n:Nat}(h:∀ a (us:List Value),us.length=n->p (a::us)):∀ us:List Value,us.length=n+1->p us:=by
 intro us e
 cases us with
 | nil=>cases e
 | cons a us=>exact h a us (Nat.succ.inj e)
theorem us1(h:∀ a,p [a]):∀ us:List Value,us.length=1->p us:=X3 λa=>us0 (p:=λus=>p (a::us)) (h a)
theorem us2(h:∀ a b,p [a,b]):∀ us:List Value,us.length=2->p us:=X3 λa=>us1 (p:=λus=>p (a::us)) (h a)
theorem us3(h:∀ a b c,p [a,b,c]):∀ us:List Value,us.length=3->p us:=X3 λa=>us2 (p:=λus=>p (a::us)) (h a)
theorem us4(h:∀ a b c d,p [a,b,c,d]):∀ us:List Value,us.length=4->p us:=X3 λa=>us3 (p:=λus=>p (a::us)) (h a)
theorem us5(h:∀ a b c d e,p [a,b,c,d,e]):∀ us:List Value,us.length=5->p us:=X3 λa=>us4 (p:=λus=>p (a::us)) (h a)
theorem us6(h:∀ a b c d e f,p [a,b,c,d,e,f]):∀ us:List Value,us.length=6->p us:=X3 λa=>us5 (p:=λus=>p (a::us)) (h a)
end
section
variable {K:Frag} {mg:Str->Option Value} {h:Heap} {x fJ:Str} {st:Stmt} {f C:Addr} {ps:List Str}
theorem DI.d(q:DI K x st f)(X:K.In h)(G:h.Ns mainGlobals mg)(b:∀ (kV xU pm:Value) (an:Option Addr) (dm ct:Value) (us:List Value),us.length=ps.length->bindArgs (fnOf x x (nI st) (jz st) (aA st) .none kV xU pm an dm ct) ⟨us,[]⟩=pure (ps.zip us):=by intro _ _ _ _ _ _;first|exact us1 λ_=>rfl|exact us2 λ_ _=>rfl|exact us3 λ_ _ _=>rfl|exact us4 λ_ _ _ _=>rfl|exact us5 λ_ _ _ _ _=>rfl|exact us6 λ_ _ _ _ _ _=>rfl|exact us0 rfl):∃ fd,cj K mg x st ps f fd:=by
 obtain⟨a,l,c,k⟩:=q;have F:=Hw l c k;exact⟨_,F,F.binds b,mg_of X G a⟩
theorem MI.d(q:MI K C x fJ st f)(b:∀ (kV xU pm:Value) (an:Option Addr) (dm ct:Value) (us:List Value),us.length=ps.length->bindArgs (fnOf x fJ (nI st) (jz st) (aA st) .none kV xU pm an dm ct) ⟨us,[]⟩=pure (ps.zip us):=by intro _ _ _ _ _ _;first|exact us1 λ_=>rfl|exact us2 λ_ _=>rfl|exact us3 λ_ _ _=>rfl|exact us4 λ_ _ _ _=>rfl|exact us5 λ_ _ _ _ _=>rfl|exact us6 λ_ _ _ _ _ _=>rfl|exact us0 rfl):∃ fd,dZ K C x fJ st ps f fd:=by
 obtain⟨a,i,l,c,k⟩:=q;have F:=Hw l c k;exact⟨_,F,F.binds b,⟨a,i,k⟩⟩
theorem CI.d(q:CI K x C)(X:K.In h)(G:h.Ns mainGlobals mg)(m:Nv K C "__init__" fi):ClsAt K mg x C fi:=by
 obtain⟨a,pg,hd,po,sa,mk,kc⟩:=q;obtain⟨a1,i1,k1⟩:=m;exact⟨⟨pg,hd,po,sa⟩,mg_of X G a,⟨mk,a1,i1,kc⟩⟩
end
end gx
namespace cX
open Spec Rows L2
theorem uO{α β:Type}{F:α->β->Prop}:∀ {xs:List α} {ys:List β} {i:Nat} {x:α},Paired F xs ys->xs[i]?=some x->∃ y,ys[i]?=some y/\F x y
 | _,_,_,_,.nil,e=>by simp at e
 | _,_,0,_,.cons r _,e=>by simp at e;subst e;exact⟨Y,r⟩
 | _,_,i+1,x,.cons _ t,e=>by
  obtain⟨y,h1,h2⟩:=uO (i:=i) (x:=x) t (by simpa using e);exact⟨y,by simpa using h1,h2⟩
theorem yc{α β:Type}{F:α->β->Prop}:∀ {xs:List α} {ys:List β} {i:Nat} {y:β},Paired F xs ys->ys[i]?=some y->∃ x,xs[i]?=some x/\F x y
 | _,_,_,_,.nil,e=>by simp at e
 | _,_,0,_,.cons r _,e=>by simp at e;subst e;exact⟨Y,r⟩
 | _,_,i+1,y,.cons _ t,e=>by
  obtain⟨x,h1,h2⟩:=yc (i:=i) (y:=y) t (by simpa using e);exact⟨x,by simpa using h1,h2⟩
end cX
namespace cX
open Spec Rows L2 gx zQ
def Wn(td ty tx:TE):TE:=fun σ H Q=>td σ H λx H1=>∃ a,x=.ref a/\IsD H1 a/\ty σ H1 λy H2=>tx σ H2 λz H3=>∃ kvs k,H3 a=some (.dK kvs)/\y=kV k/\kvs.length<sizeLine/\
 (∀ v,cI kvs k=some v->Q v H3)/\(cI kvs k=none->Q z (aM H3 a (.dK (eK kvs k z))))
theorem OL{X:Cx}{e f:Expr}{td ty tx:TE}(ho:PE X o td)(he:PE X e ty)(hf:PE X f tx)(m:M2 X o "setdefault" lU e f qX):PE X (.Call (.Attribute o "setdefault" lU) [e,f] [] qX) (Wn td ty tx):=by
 intro ao s σ H Q I h;refine wpAny_Call_method m.zt m.few m.line PySem.F.plainAttrs_dict PySem.F.slot_dict_setdefault PySem.F.type_dict_setdefault (c9 (ho ao s σ H _ I h) λu s1 CM=>?_);obtain⟨x,H1,I1,rx,a,ex,d,q1⟩:=CM;subst ex;obtain rfl:u=Value.ref a:=rx;obtain⟨t1,t2,_⟩:=Wf I1 d;exists t1,t2;rw[m.trees]
 refine Calls.callWith_builtin rfl (Calls.evalArgs_plain (Calls.spliced_cons (c9 (he ao s1 σ H1 _ I1 q1) λiv s2 ⟨y,H2,I2,ry,q2⟩ =>
  Calls.spliced_cons (c9 (hf ao s2 σ H2 _ I2 q2) λfv s3 ⟨z,H3,I3,rz,kvs,k,ea,ey,dO,g1,g2⟩=>Calls.spliced_nil ?_))))
 subst ey;obtain⟨hz,hd,vs,ya,dd⟩:=Om I3.hok ea;have len:=ya.length;refine call_meetsIn PySem.F.slot_dict_setdefault dd.typeIs PySem.F.entry_dict_setdefault (PySem.F.args_dict_setdefault_3 _ _ _) (kt_meets_setdefault (fQ X.prog X.w) a (BW ry) hd fv) ⟨vs,dd,Q,λv hv=>?_,λhn h' QB hs=>?_⟩
 ·have r:=ya.val k;rw[hv]at r
  cases ev:cI kvs k with
  | none=>rw[ev]at r;exact (show False from r).elim
  | some w =>
   rw[ev]at r;exact⟨w,H3,I3.tok _,r,g1 w ev⟩
 ·have r:=ya.val k;rw[hn]at r
  cases ev:cI kvs k with
  | some w=>rw[ev]at r;exact (show False from r).elim
  | none =>
   have hl:(eK kvs k z).length<=sizeLine:=by have:=gY kvs k z;lia
   have J9:∃ q,h'.get? a=some q:=let ⟨q,P,hq,_⟩:=QB;⟨q,hq⟩;exact⟨z,_,yT I3 (by rw[ea];exact True.intro) hs J9 (HW hl hd (ya.put k rz) QB),rz,g2 ev⟩
end cX
namespace cX
open Spec Rows L2
end cX
namespace cX
open Spec Rows L2 gx zQ
end cX
namespace fO
open Spec Rows PySem.W L2
end fO
namespace cX
open Spec Rows L2 fO
def Ce(c:Nat):V:=.str ⟨#[c]⟩
def fF(cs:List Nat):Str:=⟨cs.toArray⟩
theorem rH(x:Str):fF x.cps.toList=x:=by cases x;rfl
theorem qc(cs:List Nat):(fF cs).length=cs.length:=by show (cs.toArray).size=_;simp
theorem RN{a b:List Nat}(h:fF a=fF b):a=b:=by
 have e:=congrArg (λx:Str=>x.cps.toList) h;simpa [fF] using e
theorem Kn:∀ {cs:List Nat} {us:List Value},cA (cs.map Ce) us->StrsAre us (cs.map λc=>(⟨#[c]⟩:Str))
 | [],_,.nil=>.nil
 | c::cs,_,.cons ⟨t,e⟩ r=>by
  subst e;exact .cons _ t (Kn r)
theorem Ip(cs:List Nat):Txt.join (Str.ofString "") (cs.map λc=>(⟨#[c]⟩:Str))=fF cs:=by
 have e:Txt.join (Str.ofString "") (cs.map λc=>(⟨#[c]⟩:Str))=Str.join (Str.ofString "") (cs.map λc=>(⟨#[c]⟩:Str)):=by
  have z:=join_plain_closes (Str.ofString "") (cs.map λc=>(⟨#[c]⟩:Str));exact beq_iff_eq.mp z
 rw[e];have em:(Str.ofString "")=(⟨#[]⟩:Str):=by decide +kernel
 rw[em];clear e em
 induction cs with
 | nil=>rfl
 | cons c cs ih =>
  cases cs with
  | nil=>rfl
  | cons d cs =>
   rw[jv]at ih;have s:Str.join ⟨#[]⟩ ((c::d::cs).map λc=>(⟨#[c]⟩:Str))=Str.append (Str.append ⟨#[c]⟩ ⟨#[]⟩) (Str.join ⟨#[]⟩ ((⟨#[d]⟩:Str)::cs.map λc=>(⟨#[c]⟩:Str))):=rfl;rw[s,ih];show (⟨(#[c]++#[])++(d::cs).toArray⟩:Str)=⟨(c::d::cs).toArray⟩;simp
theorem Cf:∀ cs:List Nat,(cs.map ((λx:Str=>x.length) ∘ λc=>(⟨#[c]⟩:Str))).sum=cs.length
 | []=>rfl
 | c::cs=>by rw[jv,List.sum_cons,Cf cs,lR];show 1+_=_;lia
theorem all_range:∀ bs:List Bool,(List.range bs.length).all (λi=>bs.getD i false)=bs.all id
 | []=>rfl
 | b::bs=>by
  rw[lR,List.range_succ_eq_map,List.all_cons,List.all_map,List.all_cons,← all_range bs];rfl
section
variable {X:Cx}
theorem AZ(hc:X.calm=true):jV X (.type "list") (λxs H Q=>∃ cs:List Nat,xs=[.str (fF cs)]/\cs.length<=sizeLine/\∀ l,H l=none->Q (.ref l) (aM H l (.lst (cs.map Ce)))):=by
 intro ao s σ H xs us Q I r h;obtain⟨cs,rfl,hz,q⟩:=h;obtain⟨u,rfl,t,rfl⟩:=r.one;refine call_list_str (I.ok.hd hc) (fF cs) t (hn:=by show cs.toArray.size<=_;simpa using hz) λh' tk qG c' hk hS cT=>?_;refine⟨.ref s.heap.objs.size,_,I.laid (o:=.lst (cs.map Ce)) (t':=tk) hk (fH _) ⟨by rw[cz];exact hz,qG.toList,c',?_,by simpa using hS⟩,rfl,q _ (I.hok.fresh (fH _))⟩
 have key:∀ (cs:List Nat) (us:List Value),us.length=cs.length->(∀ (j:Nat) (v:Value),us[j]?=some v->∃ c u,cs[j]?=some c/\v=Value.str ⟨#[c]⟩ u)->cA (cs.map Ce) us:=by
  intro cs
  induction cs with
  | nil=>intro us hl _;cases us with
   | nil=>exact .nil
   | cons=>simp at hl
  | cons c cs ih=>intro us hl hp;cases us with
   | nil=>simp at hl
   | cons u us =>
    obtain⟨c',t',e1,e2⟩:=hp 0 u rfl;refine .cons ?_ (ih us (by simpa using hl) λj v e=>by simpa using hp (j+1) v (by simpa using e));have:c=c':=by simpa using e1
    subst this;exact⟨t',e2⟩
 refine key cs qG.toList (by have:=cT.1;simpa [fF] using this) λj v e=>?_;obtain⟨c,u,e1,e2⟩:=cT.2 j v (by simpa using e);exact⟨c,u,by simpa [fF] using e1,e2⟩
theorem OM:XT X "str.join" (λx xs H Q=>∃ (l:Addr) (cs:List Nat),x=.str ""/\xs=[.ref l]/\H l=some (.lst (cs.map Ce))/\cs.length<=1000000/\Q (.str (fF cs)) H):=by
 intro ao s σ H x xs v us Q I rx rs h;obtain⟨l,cs,rfl,rfl,hl,hz,q⟩:=h;obtain⟨t,rfl⟩:=rx;obtain⟨u,rfl,ru⟩:=rs.one;cases (show u=Value.ref l from ru);obtain⟨aL,rv,pl,_⟩:=I.list (bI.of (K:=X.K) hl);refine join_list pl.isList (Kn rv) ?_ λt' k=>?_
 ·rw[List.map_map];have e1:(Str.ofString "").length=0:=by decide +kernel
  have e2:=Cf cs;rw[e1,e2];lia
 ·rw[Ip];exact⟨.str (fF cs),H,I.tok _,⟨t',rfl⟩,q⟩
theorem LR(hc:X.calm=true):jV X (.builtin "all") (λxs H Q=>∃ (p:Addr) (bs:List Bool),xs=[.ref p]/\bI X.K H p (bs.map V.bl)/\Q (.bl (bs.all id)) H):=by
 intro ao s σ H xs us Q I r h;obtain⟨p,bs,rfl,hq,q⟩:=h;obtain⟨u,rfl,rx⟩:=r.one;cases (show u=Value.ref p from rx);obtain⟨aL,rv,pl,hz⟩:=I.list hq;have len:=rv.length;rw[cz]at len;have Er:=pl.isList
 have plt:p<s.heap.objs.size:=by
  obtain⟨o,ho,_⟩:=Er;exact Heap.lt_size ho
 refine call_all_walk (wpAny_pyIter_list Er ?_);refine⟨s.heap.objs.size,[s.heap.objs.size,p],[s.heap.objs.size],aL.toArray.size,P,λi=>bs.getD i false,rfl,Walks.list (A:=X.A.in1) (I.ok.hd hc) s.heap.objs.size p (jS plt) aL.toArray,⟨⟨_,Heap.get?_push_size _ rfl,V⟩,Er.at λo e=>Heap.get?_push_of_some _ e⟩,λi v s' Q' E' hP hQ=>?_,λh' tk hk=>?_⟩
 ·have hv:aL[i]?=some v:=by simpa using hP
  obtain⟨x,ex,er⟩:=yc rv hv;rw[fP]at ex;obtain⟨b,eb,rfl⟩:=Option.map_eq_some_iff.mp ex;cases (show v=Value.bool b from er);refine wpAny_truthy_bool ?_;have e:bs.getD i false=b:=by rw[List.getD_eq_getElem?_getD,eb];rfl
  have hQ':Q' (bs.getD i false) s':=hQ;rw[e]at hQ';exact hQ'
 ·have e:(List.range aL.toArray.size).all (λi=>bs.getD i false)=bs.all id:=by
   rw[gP,← len];exact all_range bs
  rw[e];exact⟨.bl (bs.all id),H,I.kept λb o e=>hk b o (λz=>by rw[List.mem_singleton.mp z]at e;exact absurd (Heap.lt_size e) (Nat.lt_irrefl _)) (Heap.get?_push_of_some _ e),rfl,q⟩
def ON(r r' r2:R2)(ta tb tc td:TE):TE:=fun σ H Q=>ta σ H λx H1=>tb σ H1 λy H2=>r x y H2 λz H3=>∃ k,z=.bl k/\
 (if k=true then tc σ H3 λu H4=>r' y u H4 λz' H5=>∃ k',z'=.bl k'/\(if k'=true then td σ H5 λv H6=>r2 u v H6 Q else Q (.bl false) H5) else Q (.bl false) H3)
theorem LS{op Ep QA:CmpOp}{r r' r2:R2}{a b c d:Expr}{ta tb tc td:TE}(ho:uf X (compareOp op) r)(KR:uf X (compareOp Ep) r')(ho2:uf X (compareOp QA) r2)(ha:PE X a ta)(hb:PE X b tb)(hc:PE X c tc)(hd:PE X d td)
  (hm:lastMarks [op,Ep,QA] [b,c,d]=false:=by with_unfolding_all rfl):PE X (.Compare a [op,Ep,QA] [b,c,d] pos) (ON r r' r2 ta tb tc td):=by
 intro ao s σ H Q I h
 refine Compare_chain (c9 (ha ao s σ H _ I h) λv s1 ⟨x,H1,I1,r1,q1⟩=>chain_link (c9 (hb ao s1 σ H1 _ I1 q1) λu s2 ⟨y,H2,I2,r2',q2⟩ =>
  c9 (ho ao s2 σ H2 x y v u _ I2 r1 r2' q2) λz s3 ⟨z',H3,I3,r3,k,e,q3⟩=>?_)) hm
 subst e;cases r3;refine wpAny_truthy_bool ?_
 cases k with
 | false=>exact ite_ff ⟨.bl false,H3,I3,rfl,q3⟩
 | true =>
  refine ite_tt (chain_link (c9 (hc ao s3 σ H3 _ I3 q3) λv4 s4 ⟨x4,H4,I4,r4,q4⟩=>c9 (KR ao s4 σ H4 y x4 u v4 _ I4 r2' r4 q4) λz5 s5 G4=>?_));obtain⟨x5,H5,I5,r5,k5,e5,q5⟩:=G4;subst e5;cases r5;refine wpAny_truthy_bool ?_
  cases k5 with
  | false=>exact ite_ff ⟨.bl false,H5,I5,rfl,q5⟩
  | true=>exact ite_tt (chain_last (c9 (hd ao s5 σ H5 _ I5 q5) λv6 s6 ⟨x6,H6,I6,r6,q6⟩=>ho2 ao s6 σ H6 x4 x6 v4 v6 Q I6 r4 r6 q6))
end
def Its(cs:List Nat):It:=⟨λi _=>i<cs.length,λi H x H'=>H'=H/\∃ c,cs[i]?=some c/\x=Ce c,λi _=>i=cs.length⟩
theorem Fi{P:Program}{w:World}{K:Frag}{it:Addr}{cs:List Nat}{t:Tok}{ty:String}(W:∀ A':Around,A'.handled=none->Walks P w A' it [it] [it] (fF cs).cps.size (SignAt (fF cs)) (λi h=>h.IsStrIter it ty (fF cs) t i))
  (hs:∀ (A:Around) (i:Nat) (s:Shared) (Q:Value->Shared->Prop) (E:Value->Shared->Prop),s.heap.IsStrIter it ty (fF cs) t i->Q (.ref it) s->wpAny (model P w) A (pyIter (.ref it)) Q E s)
  (hn:["enumerate","zip","dict_itemiterator","dict_reverseitemiterator","odict_iterator","itertools.zip_longest","itertools.pairwise"].contains ty=false):KU P w K tg (Its cs) [it] it (λi h=>h.IsStrIter it ty (fF cs) t i) where
 mem:=by simp
 obj:=λi h st b hb=>by
  have e:b=it:=by simpa using hb
  subst e;obtain⟨o,e,c,d⟩:=st;exact⟨o,e,λv z=>by rw[d]at z;cases z⟩
 keep:=λi h h' st k=>by
  obtain⟨o,e,r⟩:=st;exact⟨o,k it (by simp) o e,r⟩
 item:=by
  intro X hP hw hK hc i ao s σ H E I hf st hg;subst hP hw hK;obtain⟨f0,f1,f2,f3,f4,f5⟩:=hf it (by simp)
  have hi:i<(fF cs).cps.size:=by
   show i<cs.toArray.size;rw[gP];exact hg
  refine (W X.A (I.ok.hd hc)).item i s _ _ hi st λv h' tk hv Eo kk=>?_;obtain⟨c,u,ec,rfl⟩:=hv;have I1:Inv X ao σ H { s with heap:=h',toks:=tk }:=I.turned (λb o hb e=>kk b o (by simpa using hb) e) f0 f1 f3 f4 f5;obtain⟨oi,ei,ci,di⟩:=id Eo;exact⟨Y,JJ (s:={ s with heap:=h',toks:=tk }) ei ci di hn ⟨Ce c,H,I1,⟨u,rfl⟩,⟨rfl,c,by simpa [fF] using ec,rfl⟩,Eo,λb hb=>(hf b hb).1⟩⟩
 done:=by
  intro X hP hw hK hc i ao s σ H E I hf st hg;subst hP hw hK;obtain⟨f0,f1,f2,f3,f4,f5⟩:=hf it (by simp)
  have e:i=(fF cs).cps.size:=by
   show i=cs.toArray.size;rw[gP];exact hg
  rw[e]at st;exact (W X.A (I.ok.hd hc)).done s _ _ st λh' tk kk=>⟨rfl,I.turned (λb o hb e=>kk b o (by simpa using hb) e) f0 f1 f3 f4 f5⟩
 self:=hs
def ad8(tl:TE):TI:=fun σ H R=>tl σ H λx H1=>∃ cs,x=.str (fF cs)/\R (Its cs) H1
theorem Wq{X:Cx}{l:Expr}{tl:TE}(hl:PE X l tl):PI X tg l (ad8 tl):=by
 intro ao s σ H R I h;refine c9 (hl ao s σ H _ I h) λv s1 G5=>?_;obtain⟨x,H1,I1,r1,q1⟩:=G5;obtain⟨cs,e,q⟩:=q1;subst e;obtain⟨t,rfl⟩:=r1
 have fp:∀ b∈[s1.heap.objs.size],qF X ao H1 b:=λb hb=>by
  have e:b=s1.heap.objs.size:=by simpa using hb
  subst e;exact I1.Nm (fH _) (I1.hok.fresh (fH _))
 cases ha:(fF cs).cps.all (·<128) with
 | true=>exact wpAny_pyIter_ascii ha ⟨s1.heap.objs.size,[s1.heap.objs.size],P,H1,rfl,I1.kept (t':=s1.toks) λb o e=>Heap.get?_push_of_some _ e,Fi (t:=t) (λA' hA=>Walks.strAscii hA _ _ t) (λ_ _ _ _ _ st h=>wpAny_pyIter_striter_ascii st h) (by decide),⟨_,Heap.get?_push_size _ rfl,V⟩,fp,q⟩
 | false=>exact wpAny_pyIter_wide ha ⟨s1.heap.objs.size,[s1.heap.objs.size],P,H1,rfl,I1.kept (t':=s1.toks) λb o e=>Heap.get?_push_of_some _ e,Fi (t:=t) (λA' hA=>Walks.strWide hA _ _ t) (λ_ _ _ _ _ st h=>wpAny_pyIter_striter_wide st h) (by decide),⟨_,Heap.get?_push_size _ rfl,V⟩,fp,q⟩
theorem LV{cs:List Nat}{g:TG}{tt:TT}{te:TE}{σ0:L2.St}{H:Hp}{Q:VK}(Pv:Nat->L2.St->Hp->Prop)(h0:Pv 0 σ0 H)
  (hs:∀ (i:Nat) c σ H,cs[i]?=some c->Pv i σ H->g (Ce c) σ H fun σ2 H2=>tt σ2 H2 λb H3=>if b=true then te σ2 H3 λv H4=>∃ ys,H4 acc=some (.lst ys)/\ys.length<sizeLine/\Pv (i+1) σ2 (aM H4 acc (.lst (ys++[v]))) else Pv (i+1) σ2 H3)
  (hd:∀ σ H,Pv cs.length σ H->Q (.ref acc) H):yU (Its cs) acc g tt te σ0 H Q:=by
 refine⟨λi m σ H=>m=cs.length-i/\i<=cs.length/\Pv i σ H,⟨cs.length,by simp,Nat.zero_le _,h0⟩,?_⟩;rintro i m σ H ⟨rfl,hi,p⟩;by_cases tN:i<cs.length
 ·refine .inr ⟨tN,Pv (i+1),fun σ' H' p'=>⟨cs.length-(i+1),Q,rfl,tN,p'⟩,λx H' y=>?_⟩;obtain⟨e,c,y,ex⟩:=y;subst e ex;exact hs i c σ _ y p
 ·have e:i=cs.length:=by lia
  subst e;exact .inl ⟨rfl,hd σ H p⟩
end cX
namespace cX
open Spec Rows L2 fO gx
section
variable {X:Cx}
theorem Dm(a b:List Nat):fF a++fF b=fF (a++b):=by
 show (⟨a.toArray++b.toArray⟩:Str)=⟨(a++b).toArray⟩;simp
end
end cX
namespace uP
end uP
namespace uP
open Spec Rows
end uP
namespace uP
open Spec Rows
end uP
namespace uP
open Spec Rows
end uP
namespace uP
open Spec Rows
end uP
namespace uP
open Spec Rows
end uP
namespace uP
open Spec Rows
end uP
namespace uP
open Spec Rows L2
end uP
namespace iR
open Spec Rows L2 cX Builtin Builtin.Str
theorem vH(cs:List Nat):(fF cs).cps.toList=cs:=by simp[fF]
def jn(c:Nat):iT->List Nat
 | []=>[]
 | [x]=>x
 | x::y::r=>x++c::jn c (y::r)
theorem OO(c:Nat):∀ ps:iT,Str.join ⟨#[c]⟩ (ps.map fF)=fF (jn c ps)
 | []=>rfl
 | [x]=>rfl
 | x::y::r=>by
  show fF x++⟨#[c]⟩++Str.join ⟨#[c]⟩ ((y::r).map fF)=_;rw[OO c (y::r)];refine ext_toList ?_;rw[vH];show ((fF x).cps++#[c]++(fF (jn c (y::r))).cps).toList=_;rw[Array.toList_append,Array.toList_append,vH,vH];simp[jn]
end iR
namespace iR
open Spec Rows L2 cX Builtin Builtin.Str
section
variable {X:Cx}
theorem Cg:∀ {ys:List Str} {us:List Value},cA (ys.map V.str) us->StrsAre us ys
 | [],_,.nil=>.nil
 | _::_,_,.cons r t=>by
  obtain⟨t',rfl⟩:=r;exact .cons _ t' (Cg t)
theorem Fj:XT X "str.join" (λx xs H Q=>∃ (l:Addr) (c:Nat) (ps:iT),x=.str ⟨#[c]⟩/\xs=[.ref l]/\H l=some (.lst (ps.map λw=>V.str (fF w)))/\(ps.map List.length).sum+ps.length<=1000000/\Q (.str (fF (jn c ps))) H):=by
 intro ao s σ H x xs v us Q I rx rs h;obtain⟨l,c,ps,rfl,rfl,hl,hz,q⟩:=h;obtain⟨t,rfl⟩:=rx;obtain⟨u,rfl,ru⟩:=rs.one;cases (show u=Value.ref l from ru);obtain⟨aL,rv,pl,_⟩:=I.list (bI.of (K:=X.K) hl);have rv':cA ((ps.map fF).map V.str) aL:=by rw[List.map_map];exact rv
 refine join_list pl.isList (Cg rv') ?_ λt' k=>?_
 ·rw[List.map_map,cz];have e1:(⟨#[c]⟩:Str).length=1:=rfl;have e2:ps.map ((λx:Str=>x.length) ∘ fF)=ps.map List.length:=List.map_congr_left λp _=>qc p;rw[e1,e2];lia
 ·have e:Txt.join ⟨#[c]⟩ (ps.map fF)=fF (jn c ps):=by
   show glued _ _=_;rw[StrLaws.glued_eq_join,OO]
  rw[e];exact⟨.str (fF (jn c ps)),H,I.tok _,⟨t',rfl⟩,q⟩
abbrev TJV:=L2.St->Hp->Str->(Str->Hp->Prop)->Prop
def X4(X:Cx)(es:List Expr)(m:Nat)(t:TJV):Prop:=∀ (ao:List (Addr × Obj)) (s:Shared) (σ:L2.St) (H:Hp) (wW:Str) (Q:Str->Hp->Prop),L2.Inv X ao σ H s->t σ H wW Q->wW.length+m<=1000000->
 wpAny (model X.prog X.w) X.A (joinParts wW (evalEach es X.env)) (λu s'=>∃ x tk H',u=.str x tk/\L2.Inv X ao σ H' s'/\Q x H') X.xe s
theorem RO:X4 X [] 0 (λ_ H wW Q=>Q wW H):=λao s σ H wW Q I h hl =>
 joinParts_nil ⟨wW,_,H,rfl,I.tok _,h⟩ (gM (Nat.lt_of_le_of_lt hl (by decide)))
theorem RP{x:Str}{j:Nat}{es:List Expr}{m:Nat}{t:TJV}(h:X4 X es m t):X4 X (.Constant (.str x) j pos::es) (x.length+m) (fun σ H wW Q=>t σ H (wW++x) Q):=by
 intro ao s σ H wW Q I q hl;refine joinParts_consE (joinParts_cons (Calls.Constant_str ?_));have z:=fO.Ka (y:=x) hl (fH _);exact⟨z.1,h ao _ σ H _ Q (I.tok _) q z.2⟩
theorem Ko{e:Expr}{te:TE}{es:List Expr}{m:Nat}{t:TJV}(he:PE X e te)(h:X4 X es m t):X4 X (.FormattedValue e (-1) none pos::es) (1921+m) (fun σ H wW Q=>te σ H λv H1=>∃ i:Int,v=.int i/\i.natAbs.log2<1920/\t σ H1 (wW++Str.ofString (toString i)) Q):=by
 intro ao s σ H wW Q I q hl;refine joinParts_consE (joinParts_cons (FormattedValue_plain (c9 (he ao s σ H _ I q) λv s1 AR=>?_)));obtain⟨x,H1,I1,r1,i,e1,hi,q1⟩:=AR;subst e1;obtain⟨tk,rfl⟩:=r1;refine formatField_int_small hi ?_;have z:=fO.Ka (y:=Str.ofString (toString i)) hl (int_text_len_1921 hi);exact⟨z.1,h ao _ σ H1 _ Q (I1.tok _) q1 z.2⟩
theorem OP{vh:List Expr}{m:Nat}{t:TJV}(h:X4 X (v1::v2::vh) m t)(hm:m<=1000000:=by decide +kernel):PE X (.JoinedStr (v1::v2::vh) pos) (fun σ H Q=>t σ H Str.empty λx H1=>Q (.str x) H1):=by
 intro ao s σ H Q I q;refine JoinedStr_many (c9 (h ao s σ H Str.empty _ I q (by show 0+m<=_;lia)) λu s1 EF=>?_);obtain⟨x,tk,H1,e,I1,q1⟩:=EF;subst e;exact⟨.str x,H1,I1,⟨Y⟩,q1⟩
end
end iR
namespace iR
open Spec Rows L2 cX Builtin Builtin.Str
end iR
namespace iR
open Spec Rows L2 cX Builtin Builtin.Str gx
def dg(n:Int):List Nat:=(Nat.toDigits 10 n.toNat).map Char.toNat
theorem yY{n:Int}(h:0<=n):Str.ofString (toString n)=fF (dg n):=by
 refine ext_toList ?_;rw[vH];obtain⟨m,rfl⟩:∃ m:Nat,n=(m:Int):=⟨n.toNat,Q⟩;exact PySem.W.KIN.signs_num m
theorem Iq{n:Int}(h0:0<=n)(h1:n<10^60):(dg n).length<=60:=by
 have:=toString_length_le h0 (k:=60) (by decide) h1;rw[yY h0,qc]at this;exact this
end iR
namespace OQ
open Spec Rows PySem.W L2 cX fO
end OQ
namespace OQ
open Spec Rows PySem.W L2 cX fO
end OQ
namespace iR
open Spec Rows L2 cX Builtin Builtin.Str gx
end iR
namespace OQ
open Spec Rows PySem.W L2 cX fO
end OQ
namespace Fl
open Spec Rows L2 cX fO gx
end Fl
namespace Fl
open Spec Rows L2 cX fO gx PySem.W
section
variable {X:Cx}
theorem Zy{e:Expr}{te:TE}(he:PE X e te):PE X (.JoinedStr [.FormattedValue e (-1) none pos] iU) (fun σ H Q=>te σ H λv H1=>(∃ i:Int,v=.int i/\i.natAbs.log2<1920/\Q (.str (Str.ofString (toString i))) H1)\/∃ cs:List Nat,v=.str (fF cs)/\cs.length<=100000/\Q (.str (fF cs)) H1):=by
 intro ao s σ H Q I q;refine JoinedStr_one (FormattedValue_plain (c9 (he ao s σ H _ I q) λv s1 CM=>?_));obtain⟨x,H1,I1,r1,h1⟩:=CM;rcases h1 with ⟨i,rfl,hi,q1⟩|⟨cs,rfl,hc,q1⟩
 ·obtain⟨tk,rfl⟩:=r1;exact formatField_int_small hi ⟨.str _,H1,I1.tok _,⟨Y⟩,q1⟩
 ·obtain⟨tk,rfl⟩:=r1;exact formatField_str (λt' k=>⟨.str _,H1,I1.tok _,⟨Y⟩,q1⟩) (by rw[qc];exact gR hc (by decide))
end
end Fl
namespace Fl
open Spec Rows L2 cX fO gx iR Builtin Builtin.Str
end Fl
namespace Fl
open Spec Rows L2 cX Builtin Builtin.Str gx
end Fl
namespace fO
open Spec Rows PySem.W L2
section
variable {X:Cx} {ao:List (Addr × Obj)} {σ:L2.St} {H:Hp} {s:Shared} {a:Addr}
variable {x m:Str} {st:Stmt} {ps:List Str} {f C:Addr} {fd:FuncData} {j k:Nat} {sp:Sp} {e o:Expr} {es:List Expr} {ta:TE} {t:TA} {p lU pos:Pos} {pl:Sem Bool}
variable {te:TEx} {i:Nat} {z:Str} {iU:Pos} {c:Expr} {tc:TT} {tx ty:TSx} {a b:Stmt} {hs:List Hd}
theorem vI{y:Str}(d:gx.cj X.K X.mg x st ps f fd)(hm:X.mg y=some (.ref f))(G:bq X.prog X.w X.K X.mg X.zt cM k f fd ps sp)(hr:jg j X.A)
  (ha:PA X (e::es) t) (VR:k<=j:=by first|decide|lia) (hg:Gl X y:=by rfl) (Ld:(y == ("__debug__":Str))=false:=by decide) (he:starEach (e::es) X.env=(false,eval e X.env)::starEach es X.env:=by rfl)
  (Er:(backTo pos (starEach es X.env)).any (·.1)=false:=by rfl):PE X (.Call (.Name y p) (e::es) [] pos) (JN sp [] E0 t) :=
 JP G (hr.mono VR) hg hm d.F.kp d.b .nil bN ha Ld he Er
end
end fO
namespace qd
open Spec Rows PySem.W L2 cX fO
end qd
namespace qd
open Spec Rows PySem.W L2 cX fO
open Builtin Builtin.ObjectAttr
end qd
namespace qd
open Spec Rows PySem.W L2 cX fO
open Builtin Builtin.ObjectAttr
end qd
namespace qd
open Spec Rows PySem.W L2 cX fO
end qd
namespace qd
open Spec Rows PySem.W L2 cX fO
open Builtin Builtin.ObjectAttr
end qd
namespace qd
open Spec Rows PySem.W L2 cX fO
end qd
namespace qd
open Spec Rows PySem.W L2 cX fO
end qd
namespace qd
open Spec Rows PySem.W L2 cX fO
end qd
namespace qd
open Spec Rows PySem.W L2 cX fO
end qd
namespace qd
open Spec Rows PySem.W L2 cX fO
end qd
namespace gx
open Spec Rows L2 cX fO zQ
theorem fc{N P:List Str}{sc:Scope}(a:sc.kind=.function:=by rfl)(b:sc.isCoroutine=false:=by rfl)(c:sc.isGenerator=false:=by rfl)(d:N.Nodup:=by decide +kernel)(e:N.take P.length=P:=by rfl)(f:∀ x∈P,sc.names.lookup x=some .local\/sc.names.lookup x=some .cell:=by decide +kernel)(g:∀ y∈sc.names,y.2≠.free:=by decide +kernel):aH N P sc:=⟨a,b,c,d,e,f,g⟩
section
variable {P:Program} {w:World} {K:Frag} {mg:Str->Option Value} {zt:Heap}
theorem fG{x fJ:Str}{st:Stmt}{f:Addr}{N ps:List Str}{k:Nat}{sp:Sp}(F:Q9 K x fJ st f fd)(S:aH N ps (aA st))
  (EK:∀ (dm:Value) (A:Around) (zn:List Env) (s:Shared) (H:Hp) (vs:List V) (Q:VK) (E:XK),jg k (A.deeper (envOfC fJ (aA st) s.heap.objs.size f dm))->sp vs H Q E->
   ∃ t,JG (Hq cM P w K mg zt N fJ (aA st) f dm A zn s H E).KS (jz st) t/\t { nx:=λ_ H'=>Q .gm H',rt:=Q } (L2.start N vs) H) (len:∀ vs H Q E,sp vs H Q E->vs.length=ps.length:=by intro _ _ _ _ h;cases h;subst_vars;rfl):bq P w K mg zt cM (k+1) f fd ps sp:=F.ok S len EK
end
section
variable {X:Cx}
theorem aU{i:Nat}{x:Str}{e:Expr}{te:TE}{pos:Pos}(hN:X.N.Nodup)(he:PE X e te)(hi:X.N[i]?=some x:=by rfl)(hx:Loc X.env.scope x:=by first|exact Or.inl rfl|exact Or.inr rfl)(hs:swapsWith e (some (.Name x iU)) pos.line X.env=pure false:=by rfl)(hf:X.fn x=true\/X.env.scope.names.lookup x=some .local:=by first|exact .inl rfl|exact .inr rfl|assumption) :
  PS X (.Assign [.Name x iU] e pos) (Nk te (tM i)):=Vr hN hi hx he hs hf
theorem b8{i:Nat}{x:Str}(hN:X.N.Nodup)(hi:X.N[i]?=some x:=by rfl)(hx:Loc X.env.scope x:=by first|exact Or.inl rfl|exact Or.inr rfl)(hf:X.fn x=true\/X.env.scope.names.lookup x=some .local:=by first|exact .inl rfl|exact .inr rfl|assumption):PG X (.Name x pos) (tM i):=QS hN hi hx hf
theorem aP{r:R2}{a b:Expr}{ta tb:TE}(hr:XS X r)(ha:PE X a ta)(hb:PE X b tb)(hs:JW b:=by exact λ_ _=>rfl):PE X (.Subscript a b pos) (YL r ta tb):=YZ hr ha hb hs
theorem ie{i:Expr}{td ty:TE}(hu:X.A.units+1<cLine)(ho:PE X o td)(hi:PE X i ty)(hs:Wc i:=by exact λ_ _=>rfl):PE X (.Subscript o i pos) (Uk td ty):=Ry hu ho hi hs
theorem fX{e:Expr}{te:TE}{p:Pos}(hm:X.mg "len"=none)(he:PE X e te)(hg:Gl X "len":=by rfl)(CN:starEach [e] X.env=(false,eval e X.env)::starEach [] X.env:=by rfl):PE X (.Call (.Name "len" p) [e] [] pos) (tCB (VG X.K) (Ny te zo)):=b9 CU hg hm PySem.boot_len (aa he ah (hs:=CN)) (by decide) (by decide) CN rfl
variable {CX:Nz} {j k:Nat} {f C fi:Addr} {fd:FuncData} {ps:List Str} {sp:Sp} {E:XK} {m cn q:Str} {st:Stmt} {pos lU:Pos} {e o:Expr} {es:List Expr} {ta:TE} {t:TA} {pl:Sem Bool}
theorem cL(he:PE X o ta)(c:ClsAt X.K X.mg cn C fi)(d:dZ X.K C m q st ps f fd)(F:bq X.prog X.w X.K X.mg X.zt CX k f fd ps sp)(hr:jg j X.A)(hx:nX CX X E)(ha:PA X (e::es) t)(VR:k<=j:=by first|decide|lia)
  (CN:starEach (e::es) X.env=(false,eval e X.env)::starEach es X.env:=by rfl) (Er:(backTo pos (starEach es X.env)).any (·.1)=false:=by rfl)
  (ht:eval (.Call (.Attribute o m lU) (e::es) [] pos) X.env=(do
   let ov ← eval o X.env
   standAt lU.atName
   let (f,first) ← holding [ov] (getMethod ov m pl)
   callWith pos f first (backTo pos (starEach (e::es) X.env)) (backToKw pos (keywordEach [] X.env))):=by rfl) :
  PE X (.Call (.Attribute o m lU) (e::es) [] pos) (JO C m sp [] E ta t):=QZ he c.cl d.mt F (hr.mono VR) d.b .nil hx ha CN Er ht
theorem ff(he:PE X o ta)(c:ClsAt X.K X.mg cn C fi)(d:dZ X.K C m q st ps f fd)(F:bq X.prog X.w X.K X.mg X.zt CX k f fd ps sp)(hr:jg j X.A)(hx:nX CX X E)(VR:k<=j:=by first|decide|lia)
  (ht:eval (.Call (.Attribute o m lU) [] [] pos) X.env=(do
   let ov ← eval o X.env
   standAt lU.atName
   let (f,first) ← holding [ov] (getMethod ov m pl)
   callWith pos f first (backTo pos (starEach [] X.env)) (backToKw pos (keywordEach [] X.env))):=by rfl) :
  PE X (.Call (.Attribute o m lU) [] [] pos) (JO C m sp [] E ta zo):=NC he c.cl d.mt F (hr.mono VR) d.b .nil hx ht
end
theorem iG:0<=sizeLine:=by decide
theorem m6:1<=sizeLine:=by decide
theorem lF:2<=sizeLine:=by decide
theorem Wr:3<=sizeLine:=by decide
theorem Dp:4<=sizeLine:=by decide
theorem Ws:5<=sizeLine:=by decide
theorem Zz:6<=sizeLine:=by decide
theorem uQ{x:V}{r:List V}:pG (x::r) 0=some x:=dc (j:=0) rfl
theorem vJ{x y:V}{r:List V}:pG (x::y::r) 1=some y:=dc (j:=1) rfl
theorem A0{x y z:V}{r:List V}:pG (x::y::z::r) 2=some z:=dc (j:=2) rfl
theorem A1{x y z u:V}{r:List V}:pG (x::y::z::u::r) 3=some u:=dc (j:=3) rfl
theorem RQ{x y z u v:V}{r:List V}:pG (x::y::z::u::v::r) 4=some v:=dc (j:=4) rfl
theorem ZA{x y z u v w:V}{r:List V}:pG (x::y::z::u::v::w::r) 5=some w:=dc (j:=5) rfl
end gx
set_option Elab.async false
set_option linter.all false
set_option maxRecDepth 100000
namespace gx
open L2 cX fO zQ Wh
structure Nms(mg:Str->Option Value):Prop where
 fj:mg "len"=none
 gu:mg "list"=none
 Kp:mg "tuple"=none
 Us:mg "int"=none
 Ir:mg "bool"=none
 Ut:mg "str"=none
 jc:mg "range"=none
 ZC:mg "zip"=none
 dz:mg "isinstance"=none
 Uu:mg "sum"=none
 Fo:mg "min"=none
 zV:mg "max"=none
 ZD:mg "all"=none
 OR:mg "sorted"=none
 oA:∀ f,mg "size"=some (.ref f)->mg "size_spans"=some (.ref f)
 rJ:∀ f,mg "shown"=some (.ref f)->mg "shown_weave"=some (.ref f)
section
variable {P:Program} {w:World} {K:Frag} {mg:Str->Option Value} {zt:Heap}
theorem Iu:aH ["_law_script"] ["_law_script"] (aA wN):=fc
structure Gbs(mg:Str->Option Value):Prop where
 s:∃ t,mg "MOST_SHEETS"=some (.int 40 t)
 w:∃ t,mg "MOST_WEIGHT"=some (.int 200 t)
 h:∃ t,mg "HIDDEN"=some (.str "#" t)
structure Ds(K:Frag)(mg:Str->Option Value)(aZ:Nat->Addr)(br:Nat->FuncData)(C CS CW CB CT CD:Addr):Prop where
 T:Nms mg
 G:Gbs mg
 aO:ClsAt K mg "Library" C (aZ 52)
 cH:ClsAt K mg "Shelf" CS (aZ 36)
 kL:ClsAt K mg "Well" CW (aZ 47)
 zW:ClsAt K mg "Blots" CB (aZ 9)
 Ci:ClsAt K mg "Ties" CT (aZ 45)
 Fp:ClsAt K mg "Dues" CD (aZ 46)
 j9:fK K CS "states"
 oR:fK K CS "openings"
 wU:fK K CW "signs"
 vA:fK K CW "owners"
 oS:fK K CW "pourings"
 yS:fK K CB "stains"
 C2:fK K CT "given"
 C3:fK K CT "pairs"
 J2:fK K CD "sums"
 zA:fK K C "well"
 eY:fK K C "shelf"
 C4:fK K C "blots"
 C5:fK K C "knots"
 J3:fK K C "dues"
 EO:fK K C "book"
 dq0:cj K mg "_law_src" wN ["_law_script"] (aZ 0) (br 0)
 yd:cj K mg "_law_next" uh XN (aZ 1) (br 1)
 dq2:cj K mg "_law_whole" qY ["_law_found"] (aZ 2) (br 2)
 Wu:cj K mg "_law_same" um ["_law_found","_law_due"] (aZ 3) (br 3)
 ZE:cj K mg "plain" Hx ["row"] (aZ 4) (br 4)
 Wv:cj K mg "size" JY ["row"] (aZ 5) (br 5)
 X5:cj K mg "check_places" nY zl4 (aZ 6) (br 6)
 Ww:cj K mg "pieces" CV zl4 (aZ 7) (br 7)
 dq8:cj K mg "part" NY zl4 (aZ 8) (br 8)
 dq9:dZ K CB "__init__" "Blots.__init__" lg Ex (aZ 9) (br 9)
 ZF:cj K mg "spread" CY ["row"] (aZ 10) (br 10)
 ZG:cj K mg "first_reaching" lu ["holes","start"] (aZ 11) (br 11)
 ZH:cj K mg "left_over" uo ["start","stop","holes"] (aZ 12) (br 12)
 Wx:cj K mg "windows" vv ["items"] (aZ 13) (br 13)
 Wy:cj K mg "below" CZ ["rows","sheets"] (aZ 14) (br 14)
 ZI:cj K mg "way_between" pH ["rows","start","goal"] (aZ 15) (br 15)
 ZJ:cj K mg "ring" NZ zl5 (aZ 16) (br 16)
 ZK:cj K mg "item_weight" pI ["item","weights"] (aZ 17) (br 17)
 ZL:cj K mg "weights_below" jB ["rows","sheets"] (aZ 18) (br 18)
 Wz:cj K mg "item_row" wO ["item","views"] (aZ 19) (br 19)
 OS:cj K mg "views_below" lW ["rows","sheets"] (aZ 20) (br 20)
 OT:cj K mg "shown" Hy zl5 (aZ 21) (br 21)
 ZM:cj K mg "goes_on" zx ["one","other"] (aZ 22) (br 22)
 Iv:cj K mg "plain_items" pJ ["items"] (aZ 23) (br 23)
 Dq:cj K mg "inked" C0 ["row"] (aZ 24) (br 24)
 WA:cj K mg "dealt" Hz ["items","views"] (aZ 25) (br 25)
 WB:cj K mg "put_among" uq ["items","views","place","others"] (aZ 26) (br 26)
 RT:cj K mg "put_items" uu ["rows","sheet","place","items"] (aZ 27) (br 27)
 WC:cj K mg "parted" C1 ["items","views","start","stop"] (aZ 28) (br 28)
 ZN:cj K mg "cut_items" uv ["rows","sheet","start","stop"] (aZ 29) (br 29)
 ZO:cj K mg "moved_items" pK ["rows","sheet","start","stop","to"] (aZ 30) (br 30)
 ZP:cj K mg "fixed_items" pM zl5 (aZ 31) (br 31)
 ZQ:cj K mg "struck_items" nZ ["rows","sheet","ink"] (aZ 32) (br 32)
 RU:cj K mg "ink_words" pN ["row"] (aZ 33) (br 33)
 ZR:cj K mg "shown_deed" qZ ["deed"] (aZ 34) (br 34)
 WD:cj K mg "changed" zy ["state","sheet","items"] (aZ 35) (br 35)
 ZS:dZ K CS "__init__" "Shelf.__init__" ly Ex (aZ 36) (br 36)
 RV:dZ K CS "now" "Shelf.now" ux Ex (aZ 37) (br 37)
 WE:dZ K CS "many" "Shelf.many" rf Ex (aZ 38) (br 38)
 ZT:dZ K CS "step" "Shelf.step" rj ["self","changes"] (aZ 39) (br 39)
 Dr:dZ K CS "check_sheet" "Shelf.check_sheet" ji Yq (aZ 40) (br 40)
 ZU:dZ K CS "check_moment" "Shelf.check_moment" iO ["self","moment"] (aZ 41) (br 41)
 ZV:dZ K CS "rows_then" "Shelf.rows_then" iD ["self","moment"] (aZ 42) (br 42)
 A2:dZ K CS "rows" "Shelf.rows" rm Ex (aZ 43) (br 43)
 ZW:dZ K CS "row" "Shelf.row" uy Yq (aZ 44) (br 44)
 ZX:dZ K CT "__init__" "Ties.__init__" mL Ex (aZ 45) (br 45)
 ZY:dZ K CD "__init__" "Dues.__init__" mO Ex (aZ 46) (br 46)
 ZZ:dZ K CW "__init__" "Well.__init__" mP Ex (aZ 47) (br 47)
 OU:dZ K CW "size" "Well.size" uz Ex (aZ 48) (br 48)
 Z0:dZ K CW "pour" "Well.pour" uA zl2 (aZ 49) (br 49)
 Z1:dZ K CW "holds" "Well.holds" nJ ["self","row"] (aZ 50) (br 50)
 Z2:cj K mg "check_weave" pO zl5 (aZ 51) (br 51)
 WG:dZ K C "__init__" "Library.__init__" jC Ex (aZ 52) (br 52)
 RW:dZ K C "enter" "Library.enter" mQ ["self","deed","changes"] (aZ 53) (br 53)
 Fq:dZ K C "change" "Library.change" lC ["self","deed","sheet","items"] (aZ 54) (br 54)
 Z3:dZ K C "many" "Library.many" n8 Ex (aZ 55) (br 55)
 Z4:dZ K C "begin" "Library.begin" mR ["self","deed","items"] (aZ 56) (br 56)
 RX:dZ K C "fresh" "Library.fresh" mS Ex (aZ 57) (br 57)
 Z5:dZ K C "ink" "Library.ink" pP Ex (aZ 58) (br 58)
 WH:dZ K C "check_held" "Library.check_held" iP ["self","row"] (aZ 59) (br 59)
 RY:dZ K C "pour" "Library.pour" n9 zl2 (aZ 60) (br 60)
 Z6:dZ K C "put" "Library.put" pQ ["self","sheet","place","row"] (aZ 61) (br 61)
 OV:dZ K C "shown" "Library.shown" mT Yq (aZ 62) (br 62)
 Z7:dZ K C "cut" "Library.cut" pR ["self","sheet","start","stop"] (aZ 63) (br 63)
 Z8:dZ K C "quote" "Library.quote" mU ["self","target","place","source","start","stop"] (aZ 64) (br 64)
 WI:dZ K C "row" "Library.row" pS Yq (aZ 65) (br 65)
 Z9:dZ K C "window" "Library.window" lD ["self","target","place","source"] (aZ 66) (br 66)
 aaa:dZ K C "fix" "Library.fix" pT Yq (aZ 67) (br 67)
 aab:dZ K C "move" "Library.move" oh ["self","sheet","start","stop","to"] (aZ 68) (br 68)
 LW:dZ K C "strike" "Library.strike" i9 ["self","row"] (aZ 69) (br 69)
 aac:cj K mg "_law_sign" uB ["_law_src_here","_law_few"] (aZ 70) (br 70)
 aad:cj K mg "_law_text" pU ["_law_src_here","_law_many"] (aZ 71) (br 71)
 RZ:cj K mg "_law_world" nK [] (aZ 72) (br 72)
 R0:cj K mg "_law_keep" uC ["_law_world_here","_law_rows"] (aZ 73) (br 73)
 WJ:cj K mg "_law_swap" uD ["_law_rows","_law_sheet","_law_entries"] (aZ 74) (br 74)
 Sb:cj K mg "_law_spell" rA ["_law_row"] (aZ 75) (br 75)
 Ft:cj K mg "_law_show" uE zl6 (aZ 76) (br 76)
 aae:cj K mg "_law_reached" oj zl6 (aZ 77) (br 77)
 WK:cj K mg "_law_pieces" pV zl7 (aZ 78) (br 78)
 OW:cj K mg "_law_put" wQ zl8 (aZ 79) (br 79)
 WL:cj K mg "_law_cut" wR zl9 (aZ 80) (br 80)
 WM:cj K mg "_law_weighed" om zl6 (aZ 81) (br 81)
 WN:cj K mg "_law_row_of" pW ["_law_numbers"] (aZ 82) (br 82)
 aaf:cj K mg "_law_fits" pX zl6 (aZ 83) (br 83)
 aag:cj K mg "_law_after" rB ["_law_world_here","_law_deed_here"] (aZ 84) (br 84)
 ad9:dZ K C "back" "Library.back" tP ["self","sheet","moment"] (aZ 85) (br 85)
 WO:cj K mg "_law_done" uF ["_law_house","_law_deed_here"] (aZ 86) (br 86)
 Sd:cj K mg "_law_ink_row" oq U9 (aZ 87) (br 87)
 aah:cj K mg "_law_move_by" ou ["_law_src_here","_law_sheet","_law_room"] (aZ 88) (br 88)
 aai:cj K mg "_law_draw" uG U9 (aZ 89) (br 89)
 aaj:cj K mg "_law_pour" pY Va (aZ 90) (br 90)
 aak:cj K mg "_law_fresh" rC ["_law_world_here","_law_house"] (aZ 91) (br 91)
 aal:cj K mg "_law_begin" rD Va (aZ 92) (br 92)
 aam:cj K mg "_law_both" uH Yr (aZ 93) (br 93)
 aan:cj K mg "_law_left" pZ Ys (aZ 94) (br 94)
def nth{α:Type}:List α->α->Nat->α
 | [],d,_=>d
 | a::_,_,0=>a
 | _::l,d,n+1=>nth l d n
theorem Iw:‹(1,0,["_law_script"],(Ue K))›:=λD=>by
 specialize fG D.dq0.F Iu;obtain⟨a,ns,rfl,hS,k⟩:=h;exists _,(au (aN (bM (aa (cR cS rfl D.T.gu oM (aa (iV lV (pv 0) nH (i7 ay)) ah)) (aa ay (aa ay (aa ay ah)))))));refine⟨Y,Y,a,Y,hS,λp hp=>?_⟩;refine⟨p,Y,.inl (bI.of af),λc hc=>?_⟩;refine⟨Dp,λl hl=>?_⟩;obtain⟨ms,em⟩:=Oe ns none (some 63);have GX:c≠l:=az (H:=aM (aM H p _) c _) af hl;have s1:aK H (aM H p (.lst (kC (ns.map V.int) none (some 63)))):=ak hp _;have s2:=s1.trans (ak hc (.lst (kC (ns.map V.int) none (some 63))));refine k l c _ ⟨GX,ms,0,0,1,af,?_,E,E,E⟩ (s2.trans (ak hl _)) (s2.free hl) (s1.free hc);rw[aJ GX,af,em]
theorem nO:aH ["_law_src_here","_law_base","_law_cell","_law_digit"] ["_law_src_here","_law_base"] (aA uh):=fc
theorem fY:‹(1,1,["_law_src_here","_law_base"],uJ)›:=λD=>by
 specialize fG D.yd.F nO;obtain⟨l,c,b,rfl,S,hb0,Et,k⟩:=h;exists _,(aj (HP (t':=VT) (bP (aV gn (aP bG (pv 0) ay) ay (bh _)) (aj (aU (i:=2) nO.nd ay) (aj (HP (t':=VU) (bP (aV mJ (aP bG (pv 0) ay) (fX D.T.fj (aP bG (pv 0) ay)) (bh _)) (aj (aU (i:=2) nO.nd (aP bG (aP bG (pv 0) ay) (aP bG (pv 0) ay))) (au (mH (bx dD (aP bG (pv 0) ay) ay) (pD (pv 0) ay jy)))) bf) ?b2) (aj (mH (bx zg (bx dD (bx dD (bx Hg (aP bG (pv 0) ay) ay) (bx zg (pv 2) ay)) ay) ay) (pD (pv 0) ay jy)) (au (bP (aV T8 (pv 2) (bx Np ay ay) (bh _)) (au (mH (pv 2) (pD (pv 0) ay jy))) bf))))) bf) ?b1) (aj (bP (aV EI (aP bG (pv 0) ay) ay (bh _)) (aj (aU (i:=3) nO.nd (bx zg (aP bG (pv 0) ay) (pv 1))) (aj (mH (bx zB (aP bG (pv 0) ay) (pv 1)) (pD (pv 0) ay jy)) (au (aN (pv 3))))) bf) (au (aN (bx zg (bx zB (bx zg (bx Hg (aP bG (pv 0) ay) ay) ay) ay) (pv 1))))))
 case b2 =>
  rintro D σ H ⟨l,c,b,rfl,⟨GX,ns,i,d,r,hl,hc,hi,ye,jP⟩,k⟩;exists Y,l,K,V,bI.of hl,VS,Y,l,K,V,bI.of hl,Ze,c,Y,.inl (bI.of hc),Z,Y;refine cW (λc2=>?_) (λc2=>?_)
  ·have c3:i<(ns.length:Int):=by
    have z:=of_decide_eq_true c2;rwa [cz]at z
   obtain⟨v,hv⟩:=Rn hi c3;exists Y,l,K,V,bI.of hl,Ze,Y,l,K,V,bI.of hl,VS,c,K,V,bI.of hc,hv;exists Y,l,K,V,bI.of hl,VS,Z,Y,l,P,1,V,hl,rfl;exact k v _ ⟨GX,ns,i+1,d,r,af,by rw[aJ GX];exact hc,Q,ye,jP⟩ λa ha=>aJ ha
  ·exact k 7 H ⟨GX,ns,i,d,r,hl,hc,hi,ye,jP⟩ λa _=>rfl
 case b1 =>
  rintro D σ H ⟨l,c,b,rfl,S,k⟩;obtain⟨GX,ns,i,d,r,hl,hc,hi,ye,jP⟩:=id S;exists Y,l,K,V,bI.of hl,Rk,Z,Y;refine cW (λc1=>?_) (λc1=>?_)
  ·refine⟨l,c,b,rfl,S,λcell H1 S1 k1=>?_⟩;obtain⟨_,ns1,i1,d1,r1,HK,RG,hi1,Fv,LX⟩:=id S1;exists Y,l,K,V,bI.of HK,Zf,Z,.inl ⟨Q,Q⟩,Y,Z,(by show (0:Int)<998244353;decide),Z,Z,Z,(by show (0:Int)<2147483647;decide),Y,l,P,3,V,HK,rfl;exists Y,Z,⟨E,E,E⟩,Z,Y;have b0:0<=(r1*48271+cell % 998244353+1) % 2147483647:=Int.emod_nonneg _ (by decide);have b1:(r1*48271+cell % 998244353+1) % 2147483647<2147483647:=Int.emod_lt_of_pos _ (by decide);refine cW (λc2=>?_) (λc2=>?_)
   ·exists Y,Y,l,P,2,V,af,rfl;refine k _ _ ⟨GX,ns1,i1,cell,_,af,?_,hi1,b0,b1⟩ λa ha=>?_
    ·rw[aJ GX,aJ GX];exact RG
    ·rw[aJ ha,aJ ha];exact k1 a ha
   ·refine k _ _ ⟨GX,ns1,i1,d1,_,af,?_,hi1,b0,b1⟩ λa ha=>?_
    ·rw[aJ GX];exact RG
    ·rw[aJ ha];exact k1 a ha
  ·exact k none H S λa _=>rfl
 refine⟨l,c,b,rfl,S,λcell H1 S1 k1=>?_⟩;obtain⟨GX,ns,i,d,r,hl,hc,hi,ye,jP⟩:=S1;exists Y,l,K,V,bI.of hl,Rk,Z,Y;refine cW (λc1=>?_) (λc1=>?_)
 ·exists Y,l,K,V,bI.of hl,Rk,Y,Z,hb0;exists Y,l,K,V,bI.of hl,Rk,Y,Z,⟨hb0,Et⟩,Y,l,P,2,V,hl,rfl;exists Y;refine k (d % b) _ (Int.emod_nonneg _ ∅) (Int.emod_lt_of_pos _ hb0) ⟨GX,ns,i,d / b,r,af,?_,hi,ye,jP⟩ λa ha=>?_
  ·rw[aJ GX];exact hc
  ·rw[aJ ha];exact k1 a ha
 ·exists Y,l,K,V,bI.of hl,Zf,Z,.inl ⟨Q,Q⟩,Z,(by show (0:Int)<2147483399;decide),Z,⟨E,E⟩,Y,Z,hb0;exact k _ _ (Int.emod_nonneg _ ∅) (Int.emod_lt_of_pos _ hb0) ⟨GX,ns,i,d,r,hl,hc,hi,ye,jP⟩ k1
theorem Dt:aH ["_law_found"] ["_law_found"] (aA qY):=fc
theorem rK:aH ["_law_found","_law_due","_law_one","_law_other"] ["_law_found","_law_due"] (aA um):=fc
theorem Du:‹(1,2,["_law_found"],J7)›:=λD=>by
 specialize fG D.dq2.F Dt;obtain⟨i,rfl,k⟩:=h;exists _,(au (aN (pC (b9 dY rfl D.T.dz yu (aa (pv 0) (aa (qo rfl D.T.Us PyProof.Rows.boot_int) ah))) (qS (Vm (b9 dY rfl D.T.dz yu (aa (pv 0) (aa (qo rfl D.T.Ir PyProof.Rows.boot_bool) ah))))))));exact⟨Y,K,Y,kB.int i,Zi K,Y,jA ⟨Y,K,Y,kB.int i,Zh K,Y,k⟩⟩
theorem A3(D:Ds K mg aZ br C CS CW CB CT CD){n:Nat}(Fw:bq P w K mg zt cM 1 (aZ 2) (br 2) ["_law_found"] J7)(m7:bq P w K mg zt cM (n+1) (aZ 3) (br 3) ["_law_found","_law_due"] (zG n)):bq P w K mg zt cM (n+2) (aZ 3) (br 3) ["_law_found","_law_due"] (zG (n+1)):=by
 refine D.Wu.F.ok rK (λvs H Q E h=>?_) (λdm A zn s H vs Q E hr h=>?_)
 ·obtain⟨x,y,rfl,_⟩:=h;rfl
 obtain⟨x,y,rfl,h,k⟩:=h;exists _,(aj (bP (CL (Ni (pv 1))) (au (aN (Vl (Ni (pv 0))))) bf) (aj (bP (mF (b9 dY rfl D.T.dz yu (aa (pv 1) (aa (qo rfl D.T.Ir PyProof.Rows.boot_bool) ah)))) (au (aN (pC (b9 dY rfl D.T.dz yu (aa (pv 0) (aa (qo rfl D.T.Ir PyProof.Rows.boot_bool) ah))) (qS (lT dR (pv 0) (pv 1) (bh _)))))) bf) (aj (bP (mF (b9 dY rfl D.T.dz yu (aa (pv 1) (aa (qo rfl D.T.Us PyProof.Rows.boot_int) ah)))) (au (aN (pC (aC D.dq2 Fw hr (aa (pv 0) ah)) (qS (lT dR (pv 0) (pv 1) (bh _)))))) bf) (aj (bP (mF (b9 dY rfl D.T.dz yu (aa (pv 1) (aa (qo rfl D.T.Ut PyProof.Rows.boot_str) ah)))) (au (aN (pC (b9 dY rfl D.T.dz yu (aa (pv 0) (aa (qo rfl D.T.Ut PyProof.Rows.boot_str) ah))) (qS (lT dR (pv 0) (pv 1) (bh _)))))) bf) (aj (bP (PW.pt (JI (aV Nr (b9 dY rfl D.T.dz yu (aa (pv 1) (aa (qo rfl D.T.gu oM) ah))) (b9 dY rfl D.T.dz yu (aa (pv 0) (aa (qo rfl D.T.gu oM) ah))) (bh _)) (G3 (aV Nr (b9 dY rfl D.T.dz yu (aa (pv 1) (aa (qo rfl D.T.Kp PyProof.Rows.boot_tuple) ah))) (b9 dY rfl D.T.dz yu (aa (pv 0) (aa (qo rfl D.T.Kp PyProof.Rows.boot_tuple) ah))) (bh _))))) (au (aN qm)) bf) (aj (bP (aV Nr (fX D.T.fj (pv 0)) (fX D.T.fj (pv 1)) (bh _)) (au (aN qm)) bf) (aj (dN PassesOwn.never rfl (VQ rfl D.T.ZC (aa (pv 0) (aa (pv 1) ah))) (kY (n:=2) rfl (bT (b8 (i:=2) rK.nd) (bT (b8 (i:=3) rK.nd) gC))) (au (bP (mG (mF (aC D.Wu m7 hr (aa (pv 2) (aa (pv 3) ah))))) (au (aN qm)) bf))) (au (aN qm)))))))));have kk:=k H (aK.refl H);rcases h with ⟨hf,rfl⟩|⟨kd,a,b,xs,ys,rfl,rfl,h1,h2,hl,hi⟩
 ·cases x with
  | gm =>
   refine⟨Y,Y,cW (λ_=>?_) (λc=>absurd (decide_eq_true rfl) c)⟩;exact⟨Y,tt rfl kk⟩
  | bl v =>
   refine⟨Y,Y,cW (λc=>absurd (of_decide_eq_true c) (λz=>nomatch z)) (λ_=>?_)⟩;refine⟨Y,K,Y,kB.bl v,Zg K,Y,jA ?_⟩;exact⟨Y,K,Y,kB.bl v,Zg K,Y,jA ⟨Y,Y,rfl,tt rfl kk⟩⟩
  | int i =>
   refine⟨Y,Y,cW (λc=>absurd (of_decide_eq_true c) (λz=>nomatch z)) (λ_=>?_)⟩;refine⟨Y,K,Y,kB.int i,Zh K,Y,gh ?_⟩;refine⟨Y,K,Y,kB.int i,Zi K,Y,jA ?_⟩;exact⟨Y,i,rfl,Y,jA ⟨Y,Y,rfl,tt rfl kk⟩⟩
  | str v =>
   refine⟨Y,Y,cW (λc=>absurd (of_decide_eq_true c) (λz=>nomatch z)) (λ_=>?_)⟩;refine⟨Y,K,Y,kB.str v,adt K,Y,gh ?_⟩;refine⟨Y,K,Y,kB.str v,adu K,Y,gh ?_⟩;refine⟨Y,K,Y,kB.str v,Zj K,Y,jA ?_⟩;exact⟨Y,K,Y,kB.str v,Zj K,Y,jA ⟨Y,Y,rfl,tt rfl kk⟩⟩
  | _=>cases hf
 ·refine⟨Y,Y,cW (λc=>absurd (of_decide_eq_true c) (λz=>nomatch z)) (λ_=>?_)⟩;refine⟨Y,K,Y,h2.ty,adD K kd,Y,gh ?_⟩;refine⟨Y,K,Y,h2.ty,adE K kd,Y,gh ?_⟩;refine⟨Y,K,Y,h2.ty,adF K kd,Y,gh ?_⟩;refine⟨Y,K,Y,h2.ty,Zl K kd,Y,K,Y,h1.ty,Zl K kd,rfl,Y,NV rfl ?_⟩;refine⟨Y,K,Y,h2.ty,Zm K kd,Y,K,Y,h1.ty,Zm K kd,rfl,Y,NV rfl ?_⟩;refine⟨Y,a,Y,h1.or,Y,b,Y,h2.or,rfl,Y,NV (by rw[hl]) ?_⟩;refine⟨Y,Y,kd,a,b,xs,ys,rfl,h1.sq,h2.sq,Ri (λi σ H2=>∃ u v,σ=[some (.ref a),some (.ref b),u,v]/\aK H H2) hl ⟨none,none,rfl,aK.refl H⟩ (by rintro i σ H2 _ ⟨_,_,_,s⟩;exact⟨(h1.same s).sq,(h2.same s).sq⟩) ?_ ?_⟩
  ·rintro i u v p σ H2 eu ev hp ⟨_,_,rfl,s⟩;exists p,Y,cY.of af,rfl,u,[v],rfl,v,[],V;have s2:=s.trans (ak hp (.tup [u,v]));refine⟨Y,Y,u,v,rfl,Eqv.same s2 (hi i u v eu ev),λH4 s4=>⟨Y,gh ?_⟩⟩;exact⟨P,rfl,s2.trans s4⟩
  ·rintro σ H2 ⟨_,_,rfl,s⟩;exact k H2 s
theorem nP(D:Ds K mg aZ br C CS CW CB CT CD):∀ n:Nat,bq P w K mg zt cM (n+1) (aZ 3) (br 3) ["_law_found","_law_due"] (zG n)
 | 0=>by
  have no:∀ vs H Q E,¬ zG 0 vs H Q E:=λvs H Q E h=>by
   obtain⟨x,y,_,h,_⟩:=h;exact h
  exact⟨λvs H Q E h=>absurd h (no vs H Q E),λA zn s H args us vs Q E _ _ _ _ h=>absurd h (no vs H Q E)⟩
 | n+1=>A3 D (Du D) (nP D n)
theorem yZ:aH ["row","told","start","stop"] ["row"] (aA Hx):=fc
theorem vK:‹(1,4,["row"],Rm)›:=λD=>by
 specialize fG D.ZE.F yZ;obtain⟨r,row,rfl,⟨as,jP,hp⟩,dO,k⟩:=h;refine⟨_,(aj (aU (i:=1) yZ.nd (bM ah)) (aj (dN PassesOwn.never rfl (cF (pv 0)) (kY (n:=2) rfl (bT (b8 (i:=2) yZ.nd) (bT (b8 (i:=3) yZ.nd) gC))) (aj (bP (aV dR (pv 2) (pv 3) (bh _)) (au EH) bf) (au (bP (PW.pt (qR (ku (pv 1) (λ_=>rfl)) (nG (aV dR (aP aX (aP bG (pv 1) (gG eG ay)) ay) (pv 2) (bh _))))) (au (mH (cJ (aa (aP aX (aP bG (pv 1) (gG eG ay)) ay) (aa (pv 3) ah))) (pD (pv 1) (gG eG ay) jy))) (au (aT (dX qC jX jY bU (pv 1) (aa (cJ (aa (pv 2) (aa (pv 3) ah))) ah)))))))) (au (aN (pv 1))))),?_⟩;refine⟨iG,λq hq=>?_⟩;have s0:aK H (aM H q (.lst [])):=ak hq _;refine⟨Y,r,rfl,⟨_,bI.of (s0 _ _ jP)⟩,dH (K:=K) (a:=r) (xs:=as.map V.ref) (λi σ H2=>∃ (bs:List Addr) (u v:Option V),σ=[some (.ref r),some (.ref q),u,v]/\H2 q=some (.lst (bs.map V.ref))/\bg H2 bs ((row.take i).foldl dI [])/\aK H H2) ⟨[],none,none,rfl,af,.nil,s0⟩ (by rintro i σ H2 _ ⟨_,_,_,_,_,_,s⟩;exact bI.of (s _ _ jP)) ?_ ?_⟩
 ·rintro i x σ H2 hi ⟨bs,u,v,rfl,eL,hb,s⟩;rw[fP]at hi;obtain⟨a,ea,rfl⟩:=Option.map_eq_some_iff.mp hi;obtain⟨⟨st,en⟩,ep,ha⟩:=hp.get ea;have step:=BU (f:=dI) ep
  have bl:bs.length<sizeLine:=by
   have z:=hb.len;have z2:=EY (row.take i) [];rw[gB]at z2;exact aR (by simp only[qQ]at z2;lia)
  exists a,Y,cY.of (s _ _ ha),rfl,P,rfl,Z;refine⟨Y,Y,rfl,Y,cW (λc=>?_) (λc=>?_)⟩
  ·have e:st=en:=V.int.inj (of_decide_eq_true c);refine⟨bs,P,rfl,eL,?_,s⟩;rw[step,dI,if_pos e];exact hb
  ·have e:¬ st=en:=λz=>c (decide_eq_true (congrArg V.int z));rw[dI,if_neg e]at step;rcases nB ((row.take i).foldl dI []) with hn|⟨rw0,q0,hn⟩
   ·rw[hn]at hb step;have hbs:bs=[]:=List.eq_nil_of_length_eq_zero hb.len;subst hbs;refine⟨Y,false,.inl ⟨_,bI.of eL,rfl⟩,gh (gh ?_)⟩;refine⟨Y,.inl ⟨rfl,_,bI.of eL⟩,Y,Y,lF,λt ht=>⟨q,Z,ak ht _ _ _ eL,(by show 0<sizeLine;decide),?_⟩⟩;obtain⟨g1,g2,g3⟩:=zJ (st:=st) (en:=en) hq s eL hb ht;refine⟨[]++[t],P,rfl,g1,?_,g3⟩;rw[step,kF];exact g2
   ·rw[kX]at hn;rw[hn]at hb step;obtain⟨cs,a0,rfl,hc,MZ⟩:=hb.split;have vL:H2 q=some (.lst (cs.map V.ref++[.ref a0])):=by rw[eL,gy];rfl
    refine⟨Y,true,.inl ⟨_,bI.of vL,by simp⟩,jA ?_⟩;refine⟨Y,Y,q,K,V,bI.of vL,fT _ _,a0,K,V,cY.of MZ,Lp,Y,rfl,Y,cW (λc2=>?_) (λc2=>?_)⟩
    ·have e2:q0.2=st:=V.int.inj (of_decide_eq_true c2);refine⟨Y,Y,q,K,V,bI.of vL,fT _ _,a0,K,V,cY.of MZ,Oc,Y,lF,λt ht=>?_⟩;exists Y,Y,q,P,cs.length,V,ak ht _ _ _ vL,HV cs a0;obtain⟨g1,g2,g3⟩:=turned (st:=q0.1) (en:=en) hq s vL hc ht;refine⟨cs++[t],P,rfl,g1,?_,g3⟩;rw[step,kG _ e2];exact g2
    ·have e2:¬ q0.2=st:=λz=>c2 (decide_eq_true (congrArg V.int z));refine⟨Y,.inl ⟨rfl,_,bI.of eL⟩,Y,Y,lF,λt ht=>⟨q,Z,ak ht _ _ _ eL,(by rw[cz];exact bl),?_⟩⟩;obtain⟨g1,g2,g3⟩:=zJ (st:=st) (en:=en) hq s eL hb ht;refine⟨cs++[a0]++[t],P,rfl,g1,?_,g3⟩;rw[step,kH _ e2];exact g2
 ·rintro σ H2 ⟨bs,u,v,rfl,eL,hb,s⟩;refine⟨Y,k q H2 ⟨bs,eL,?_⟩ s hq⟩;rw[cz,hp.len,gQ]at hb;exact hb
theorem WQ:aH ["row"] ["row"] (aA JY):=fc
theorem Dv:‹(1,5,["row"],V0)›:=λD=>by
 specialize fG D.Wv.F WQ;obtain⟨r,row,rfl,⟨as,jP,hp⟩,dO,k⟩:=h;refine⟨_,(au (aN (b9 (ET rfl) rfl D.T.Uu PyProof.Rows.boot_sum (aa (gZ (N:=["start","stop"]) (nL (sc:=aA JY) (NX:=["row"]) (jx:=[none,none]) rfl rfl rfl nofun nofun rfl nofun rfl nofun) rfl (cF (pv 0)) (λ_ _ _ _ _ _=>(yV (n:=2) rfl (bT (b8 (i:=0) (show List.Nodup (["start","stop"]:List Str) by decide +kernel)) (bT (b8 (i:=1) (show List.Nodup (["start","stop"]:List Str) by decide +kernel)) gC)))) (λ_ _ _ _ _ _=>jb) (λ_ _ _ _ _ _=>(bx cQ (pv 1) (pv 0)))) ah)))),?_⟩;refine⟨Y,r,rfl,⟨_,bI.of jP⟩,λacc cT=>gE (K:=K) (a:=r) (xs:=as.map V.ref) (λi σ H2=>∃ u v:Option V,σ=[u,v]/\H2 acc=some (.lst (((row.take i).map λp=>p.2-p.1).map V.int))/\aK H H2) ⟨none,none,rfl,af,ak cT _⟩ (by rintro i σ H2 _ ⟨_,_,_,_,s⟩;exact bI.of (s _ _ jP)) ?_ ?_⟩
 ·rintro i x σ H2 hi ⟨u,v,rfl,ha,s⟩;rw[fP]at hi;obtain⟨a,ea,rfl⟩:=Option.map_eq_some_iff.mp hi;obtain⟨⟨st,en⟩,ep,hpa⟩:=hp.get ea;refine⟨a,Y,cY.of (s _ _ hpa),rfl,P,rfl,Z,yes (jA ?_)⟩;refine⟨Y,Y,Z,_,ha,?_,P,rfl,?_,bS cT s (aG acc _ _)⟩
  ·rw[cz,cz,gB];exact aR ∅
  ·rw[af,take_snoc ep,gy,gy];rfl
 ·rintro σ H2 ⟨u,v,rfl,ha,s⟩;rw[cz,hp.len,gQ]at ha;exact⟨acc,Y,bI.of ha,k H2 s⟩
class inductive OX
 | mk (r:Addr) (row:Row) (a b:Int) (_:vs=[.ref r,.int a,.int b]) (_:ck H r row) (_:row.length<=1000000) (_:MW a b (ja row)) (_:∀ H',aK H H'->Q .gm H')
theorem zX:aH ["row","start","stop"] ["row","start","stop"] (aA nY):=fc
theorem gH:‹(2,6,["row","start","stop"],OX)›:=λD=>by
 specialize fG D.X5.F zX;obtain⟨r,row,a,b,rfl,R,hl,z,k⟩:=h;exists _,(au (bP (mG (Lu gn gn gn ay (pv 1) (pv 2) (fO.vI D.Wv (D.T.oA _ D.Wv.m) (Dv D) hr (aa (pv 0) ah)))) (au jw) bf));exists Y,Z,Y;rw[decide_eq_true z.1];refine cW (λ_=>?_) (λc=>absurd rfl c);exists Y,Z,Y;rw[decide_eq_true z.2.1];refine cW (λ_=>?_) (λc=>absurd rfl c);refine⟨Y,r,row,rfl,R,hl,λH1 s1=>⟨Z,Y,?_⟩⟩;rw[decide_eq_true z.2.2];exact gh (k H1 s1)
theorem kM:aH ["row","start","stop","told","ahead","first","last","low","high"] ["row","start","stop"] (aA CV):=fc
theorem sN:‹(1,7,["row","start","stop"],E3)›:=λD=>by
 specialize fG D.Ww.F kM;obtain⟨r,row,a,b,rfl,⟨as,jP,hp⟩,dO,k⟩:=h;exists _,(aj (aU (i:=3) kM.nd (bM ah)) (aj (aU (i:=4) kM.nd ay) (aj (dN PassesOwn.never rfl (cF (pv 0)) (kY (n:=2) rfl (bT (b8 (i:=5) kM.nd) (bT (b8 (i:=6) kM.nd) gC))) (aj (aU (i:=7) kM.nd (b9 (mj rfl) rfl D.T.zV PyProof.Rows.boot_max (aa (bx cQ (pv 1) (pv 4)) (aa ay ah)))) (aj (aU (i:=8) kM.nd (b9 (oQ rfl) rfl D.T.Fo PyProof.Rows.boot_min (aa (bx cQ (pv 2) (pv 4)) (aa (bx cQ (pv 6) (pv 5)) ah)))) (aj (bP (aV mJ (pv 7) (pv 8) (bh _)) (au (aT (dX qC jX jY bU (pv 3) (aa (cJ (aa (bx dD (pv 5) (pv 7)) (aa (bx dD (pv 5) (pv 8)) ah))) ah)))) bf) (au (qU (i:=4) kM.nd rfl (Or.inl rfl) (bx cQ (pv 6) (pv 5)) Nl)))))) (au (aN (pv 3))))));refine⟨iG,λq hq=>?_⟩;have s0:aK H (aM H q (.lst [])):=ak hq _;refine⟨Y,r,rfl,⟨_,bI.of (s0 _ _ jP)⟩,dH (K:=K) (a:=r) (xs:=as.map V.ref) (λi σ H2=>∃ (bs:List Addr) (t:Int) (u v x y:Option V),σ=[some (.ref r),some (.int a),some (.int b),some (.ref q),some (.int t),u,v,x,y]/\t=ja (row.take i)/\H2 q=some (.lst (bs.map V.ref))/\bg H2 bs (kW a b 0 (row.take i))/\aK H H2) ⟨[],0,none,none,none,none,V,af,.nil,s0⟩ (by rintro i σ H2 _ ⟨_,_,_,_,_,_,_,_,_,_,s⟩;exact bI.of (s _ _ jP)) ?_ ?_⟩
 ·rintro i x σ H2 hi ⟨bs,t,u,v,x1,y1,rfl,et,eL,hb,s⟩;rw[fP]at hi;obtain⟨ad,ea,rfl⟩:=Option.map_eq_some_iff.mp hi;obtain⟨⟨st,en⟩,ep,ha⟩:=hp.get ea;have step:=EZ a b (st,en) (row.take i) 0;rw[← take_snoc ep,Int.zero_add,← et]at step;have et2:t+(en-st)=ja (row.take (i+1)):=by rw[take_snoc ep,Ob,et]
  have bl:bs.length<sizeLine:=by
   have z:=hb.len;have z2:=j3 a b (row.take i) 0;rw[gB]at z2;exact aR ∅
  have e1:(if (0:Int) > a-t then (0:Int) else a-t)=max (a-t) 0:=by split <;> lia
  have e2:(if en-st<b-t then en-st else b-t)=min (b-t) (en-st):=by split <;> lia
  exists ad,Y,cY.of (s _ _ ha),rfl,P,rfl,Z;exists Y,Y,Z,P,rfl;exists Y,Y,Z,Y,Y,Z,P,rfl;rw[e1,e2];refine⟨Y,Y,Z,Y,cW (λc=>?_) (λc=>?_)⟩
  ·have c':max (a-t) 0<min (b-t) (en-st):=of_decide_eq_true c;unfold Oj at step;rw[if_pos c']at step;refine⟨Y,.inl ⟨rfl,_,bI.of eL⟩,Y,Y,Z,Y,Y,Z,lF,λtu htu=>⟨q,Z,ak htu _ _ _ eL,(by rw[cz];exact bl),?_⟩⟩;obtain⟨g1,g2,g3⟩:=zJ (st:=st+max (a-t) 0) (en:=st+min (b-t) (en-st)) hq s eL hb htu;exists Y,Y,Y,Z,Z;refine⟨bs++[tu],K,P,rfl,et2,g1,?_,g3⟩;rw[step];exact g2
  ·have c':¬ max (a-t) 0<min (b-t) (en-st):=λz=>c (decide_eq_true z);unfold Oj at step;rw[if_neg c',gK]at step;exists Y,Y,Y,Z,Z;refine⟨bs,K,P,rfl,et2,eL,?_,s⟩;rw[step];exact hb
 ·rintro σ H2 ⟨bs,t,u,v,x1,y1,rfl,et,eL,hb,s⟩;rw[cz,hp.len,gQ]at hb;exact⟨Y,k q H2 ⟨bs,eL,hb⟩ s hq⟩
class inductive Se
 | mk (r:Addr) (row:Row) (a b:Int) (_:vs=[.ref r,.int a,.int b]) (_:ck H r row) (_:row.length<=1000000) (_:MW a b (ja row)) (_:∀ (q:Addr) (H':Hp),ck H' q (bZ (kW a b 0 row))->aK H H'->H q=none->Q (.ref q) H')
theorem WR:aH ["row","start","stop"] ["row","start","stop"] (aA NY):=fc
theorem Sf:‹(3,8,["row","start","stop"],Se)›:=λD=>by
 specialize fG D.dq8.F WR;obtain⟨r,row,a,b,rfl,R,hl,z,k⟩:=h;exists _,(aj (aT (aC D.X5 (gH D) hr (aa (pv 0) (aa (pv 1) (aa (pv 2) ah))))) (au (aN (aC D.ZE (vK D) hr (aa (aC D.Ww (sN D) hr (aa (pv 0) (aa (pv 1) (aa (pv 2) ah)))) ah)))));refine⟨Y,Y,Y,r,row,a,b,rfl,R,hl,z,λH1 s1=>?_⟩;refine⟨Y,Y,Y,r,row,a,b,rfl,R.same s1,hl,λq H2 R2 s2 hq=>?_⟩;refine⟨q,Y,R2,gR (j3 a b row 0) hl,λq3 H3 R3 s3 vL=>?_⟩;exact k q3 H3 R3 (s1.trans (s2.trans s3)) (aY (s1.trans s2) vL)
def Bl(CB:Addr)(H:Hp)(x d t:Addr):Prop:=H x=some (.ins CB d [("stains",.ref t)])
class inductive Sg(CB:Addr)
 | mk (x d:Addr) (_:vs=[.ref x]) (_:H x=some (.ins CB d [])) (_: ∀ (t:Addr) (H':Hp),Bl CB H' x d t->ck H' t []->cB x H H'->H t=none->Q .gm H')
theorem xo:aH ["self"] ["self"] (aA lg):=fc
theorem vM:‹(1,9,["self"],(Sg CB))›:=λD=>by
 specialize fG D.dq9.F xo;obtain⟨x,d,rfl,hx,k⟩:=h;exists _,(au (jf (pv 0) (bM ah) rfl));refine⟨iG,λt ht=>?_⟩;have nt:t≠x:=(az hx ht).symm;exists Y,x,CB,d,Y,ak ht _ _ _ hx,D.zW.cl,D.yS,E;exact k t _ af ⟨[],by rw[aJ nt,af];rfl,.nil⟩ (λa o e n=>by rw[aJ n];exact ak ht _ a o e) ht
theorem vN:aH ["row","told","start","stop"] ["row"] (aA CY):=fc
theorem LY:‹(2,10,["row"],OJ)›:=λD=>by
 specialize fG D.ZF.F vN;obtain⟨r,row,rfl,R,dO,ok,k⟩:=h;refine⟨_,(aj (aU (i:=1) vN.nd (bM ah)) (aj (dN PassesOwn.never rfl (cF (b9 Dj rfl D.T.OR PyProof.Rows.boot_sorted (aa (aC D.ZE (vK D) hr (aa (pv 0) ah)) ah))) (kY (n:=2) rfl (bT (b8 (i:=2) vN.nd) (bT (b8 (i:=3) vN.nd) gC))) (au (bP (PW.pt (qR (ku (pv 1) (λ_=>rfl)) (nG (aV gn (pv 2) (aP aX (aP bG (pv 1) (gG eG ay)) ay) (bh _))))) (au (mH (cJ (aa (aP aX (aP bG (pv 1) (gG eG ay)) ay) (aa (b9 (mj rfl) rfl D.T.zV PyProof.Rows.boot_max (aa (aP aX (aP bG (pv 1) (gG eG ay)) ay) (aa (pv 3) ah))) ah))) (pD (pv 1) (gG eG ay) jy))) (au (aT (dX qC jX jY bU (pv 1) (aa (cJ (aa (pv 2) (aa (pv 3) ah))) ah))))))) (au (aN (pv 1))))),?_⟩;refine⟨iG,λq hq=>?_⟩;have s0:aK H (aM H q (.lst [])):=ak hq _;refine⟨Y,r,row,rfl,R.same s0,Q,λq1 H1 R1 s1 LO=>?_⟩;obtain⟨as1,h1,p1⟩:=R1;have pl:=jq row;refine⟨q1,as1,bZ row,rfl,h1,p1,Q,λl bs L hl RI srt pL=>?_⟩;have s2:aK H1 (aM H1 l (.lst (bs.map V.ref))):=ak hl _;have pL2:=pL.same s2;have s02:=s0.trans (s1.trans s2);have eL:=(s1.trans s2) _ _ (af (H:=H) (a:=q) (o:=.lst []))
 have plt:∀ p∈bZ row,p.1<p.2:=λp hp=>by
  have z:∀ (r t:Row),Ok r->(∀ p∈t,p.1<p.2)->∀ p∈r.foldl dI t,p.1<p.2:=by
   intro r
   induction r with
   | nil=>intro t _ g;exact g
   | cons a r ih =>
    intro t h g;rw[kq];refine ih _ (λb hb=>h b (mE _ hb)) ?_;have ha:=h a (by simp);unfold dI;by_cases c:a.1=a.2
    ·rw[if_pos c];exact g
    ·rw[if_neg c];rcases nB t with rfl|⟨t',b,rfl⟩
     ·rw[kF];intro p hp;rw[List.mem_singleton.mp hp];show a.1<a.2;lia
     ·rw[kX]at g ⊢;have gb:=g b (by simp);by_cases d:b.2=a.1
      ·rw[kG _ d];intro p hp;rcases List.mem_append.mp hp with e|e
       ·exact g p (qE _ e)
       ·rw[List.mem_singleton.mp e];show b.1<a.2;lia
      ·rw[kH _ d];intro p hp;rcases List.mem_append.mp hp with e|e
       ·exact g p e
       ·rw[List.mem_singleton.mp e];show a.1<a.2;lia
  exact z row [] ok (λp hp=>by cases hp) p hp
 obtain⟨Fx,mem⟩:=LQ RI srt plt;have nlq:l≠q:=(az (s1 _ _ af) hl).symm;have aj4:=RI.length_eq;refine⟨l,rfl,⟨_,bI.of af⟩,dH (K:=K) (a:=l) (xs:=bs.map V.ref) (λi σ H2=>∃ (cs:List Addr) (u v:Option V),σ=[some (.ref r),some (.ref q),u,v]/\H2 q=some (.lst (cs.map V.ref))/\bg H2 cs ((L.take i).foldl eO [])/\cB q (aM H1 l (.lst (bs.map V.ref))) H2) ⟨[],none,none,rfl,eL,.nil,cB.refl _ _⟩ (by rintro i σ H2 _ ⟨_,_,_,_,_,_,k2⟩;exact bI.of (k2 _ _ af nlq)) ?_ ?_⟩
 ·rintro i x σ H2 hi ⟨cs,u,v,rfl,vL,hb,k2⟩;rw[fP]at hi;obtain⟨a,ea,rfl⟩:=Option.map_eq_some_iff.mp hi;obtain⟨⟨st,en⟩,ep,MZ⟩:=pL2.get ea
  have ha:lE H2 a (st,en):=k2 _ _ MZ (λz=>by
   have w:=MZ;unfold lE at w;rw[z,eL]at w
   cases w)
  have step:=BU (f:=eO) ep
  have bl:cs.length<sizeLine:=by
   have z:=hb.len;have z2:=OH (L.take i) [];rw[gB,qQ]at z2;exact aR ∅
  exists a,Y,cY.of ha,rfl,P,rfl,Z
  have add:eO ((L.take i).foldl eO []) (st,en)=(L.take i).foldl eO []++[(st,en)]->∀ t,H2 t=none->∃ (cs':List Addr) (u' v':Option V),[some (V.ref r),some (.ref q),some (.int st),some (.int en)]=[some (.ref r),some (.ref q),u',v']/\(aM (aM H2 t (.tup [.int st,.int en])) q (.lst (cs.map V.ref++[.ref t]))) q=some (.lst (cs'.map V.ref))/\bg (aM (aM H2 t (.tup [.int st,.int en])) q (.lst (cs.map V.ref++[.ref t]))) cs' ((L.take (i+1)).foldl eO [])/\cB q (aM H1 l (.lst (bs.map V.ref))) (aM (aM H2 t (.tup [.int st,.int en])) q (.lst (cs.map V.ref++[.ref t]))):=λe t ht=>by
   have n1:aK H2 (aM H2 t (.tup [.int st,.int en])):=ak ht _;have Oi:t≠q:=(az vL ht).symm;refine⟨cs++[t],P,rfl,by rw[af,gy];rfl,?_,λb o eb nb=>aG q _ _ b o (n1 _ _ (k2 b o eb nb)) nb⟩;rw[step,e];refine bg.snoc ((hb.same n1).keep (n1 _ _ vL) (aG q _ _)) ?_;show aM _ _ _ t=_;rw[aJ Oi,af]
  rcases nB ((L.take i).foldl eO []) with hn|⟨rw0,q0,hn⟩
  ·have hbs:cs=[]:=by rw[hn]at hb;exact List.eq_nil_of_length_eq_zero hb.len
   subst hbs;refine⟨Y,false,.inl ⟨_,bI.of vL,rfl⟩,gh (gh ?_)⟩;exact⟨Y,.inl ⟨rfl,_,bI.of vL⟩,Y,Y,lF,λt ht=>⟨q,Z,ak ht _ _ _ vL,(by show 0<sizeLine;decide),add (by rw[hn];rfl) t ht⟩⟩
  ·rw[kX]at hn;have hb':=hb;rw[hn]at hb';obtain⟨ds,a0,rfl,hc,ha1⟩:=hb'.split;have Fy:H2 q=some (.lst (ds.map V.ref++[.ref a0])):=by rw[vL,gy];rfl
   refine⟨Y,true,.inl ⟨_,bI.of Fy,by simp⟩,jA ?_⟩;refine⟨Y,Y,Y,q,K,V,bI.of Fy,fT _ _,a0,K,V,cY.of ha1,Lp,Z,Y,cW (λc2=>?_) (λc2=>?_)⟩
   ·have c:st<=q0.2:=of_decide_eq_true c2;refine⟨Y,Y,q,K,V,bI.of Fy,fT _ _,a0,K,V,cY.of ha1,Oc,Y,Y,q,K,V,bI.of Fy,fT _ _,a0,K,V,cY.of ha1,Lp,Y,P,rfl,lF,λt ht=>?_⟩;exists Y,Y,q,P,ds.length,V,ak ht _ _ _ Fy,HV ds a0;have n1:aK H2 (aM H2 t (.tup [.int q0.1,.int (if en > q0.2 then en else q0.2)])):=ak ht _;have Oi:t≠q:=(az Fy ht).symm
    have es:(ds.map V.ref++[V.ref a0]).set ds.length (.ref t)=(ds++[t]).map V.ref:=by
     have z:=zH (ds.map V.ref) (V.ref a0) (V.ref t);rw[cz]at z;rw[z,gy];rfl
    rw[es];refine⟨ds++[t],P,rfl,af,?_,λb o eb nb=>aG q _ _ b o (n1 _ _ (k2 b o eb nb)) nb⟩;rw[step,hn,uM _ c];refine bg.snoc ((hc.same n1).keep (n1 _ _ Fy) (aG q _ _)) ?_;show aM _ _ _ t=_;rw[aJ Oi,af]
   ·have c:¬ st<=q0.2:=λz=>c2 (decide_eq_true z);exact⟨Y,.inl ⟨rfl,_,bI.of vL⟩,Y,Y,lF,λt ht=>⟨q,Z,ak ht _ _ _ vL,(by rw[cz];exact bl),add (by rw[hn,uN _ c]) t ht⟩⟩
 ·rintro σ H2 ⟨cs,u,v,rfl,vL,hb,k2⟩;rw[cz,pL2.len,gQ]at hb;have sl:=OH L [];rw[qQ]at sl;refine⟨Y,k q _ H2 ⟨cs,vL,hb⟩ Fx (λx=>by rw[mem,OG ok]) ∅ (λb o e=>k2 b o (s02 _ _ e) (az e hq)) hq⟩
theorem eX:aH ["holes","start","low","high","middle"] ["holes","start"] (aA lu):=fc
theorem Fz{bK:Row}(h:LP bK){i j:Nat}{p q:Int × Int}(hp:bK[i]?=some p)(hq:bK[j]?=some q)(ij:i<=j):p.2<=q.2:=by
 by_cases c:i=j
 ·subst c;rw[hp]at hq;cases hq;exact Int.le_refl _
 ·obtain⟨hi,ei⟩:=List.getElem?_eq_some_iff.mp hp;obtain⟨hj,ej⟩:=List.getElem?_eq_some_iff.mp hq;have:=List.pairwise_iff_getElem.mp h.1 i j hi hj ∅;rw[ei,ej]at this;have:=h.2 q (pA hq);lia
theorem vO:‹(1,11,["holes","start"],RM)›:=λD=>by
 specialize fG D.ZG.F eX;obtain⟨r,bK,x,rfl,⟨as,h1,p1⟩,Fx,k⟩:=h;have n1:=p1.len;exists _,(aj (aU (i:=2) eX.nd ay) (aj (aU (i:=3) eX.nd (fX D.T.fj (pv 0))) (aj (qV PassesOwn.never (aV mJ (pv 2) (pv 3) (bh _)) (aj (aU (i:=4) eX.nd (bx zB (bx dD (pv 2) (pv 3)) ay)) (au (bP (aV EI (aP aX (aP bG (pv 0) (pv 4)) ay) (pv 1) (bh _)) (au (aU (i:=3) eX.nd (pv 4))) (au (aU (i:=2) eX.nd (bx dD (pv 4) ay))))))) (au (aN (pv 2))))));exists Y,r,Y,.inl (bI.of h1);rw[cz,n1];refine⟨λm σ H2=>∃ (lo hi:Nat) (u:Option V),σ=[some (.ref r),some (.int x),some (.int lo),some (.int hi),u]/\H2=H/\m=hi-lo/\lo<=hi/\hi<=bK.length/\(∀ i p,bK[i]?=some p->i<lo->p.2<=x)/\(∀ i p,bK[i]?=some p->hi<=i->x<p.2),⟨_,0,bK.length,none,V,rfl,Q,fH _,λi p _ h=>by lia,λi p h1 h2=>by rw[List.getElem?_eq_none h2]at h1;cases h1⟩,?_⟩;rintro m σ H2 ⟨lo,hi,u,rfl,rfl,rfl,lh,hl,b1,b2⟩;refine⟨Y,Y,Z,Y,cW (λc=>?_) (λc=>?_)⟩
 ·have c':(lo:Int)<hi:=of_decide_eq_true c;refine⟨fun σ' H'=>∃ m',m'<hi-lo/\∃ (lo hi:Nat) (u:Option V),σ'=[some (.ref r),some (.int x),some (.int lo),some (.int hi),u]/\H'=H2/\m'=hi-lo/\lo<=hi/\hi<=bK.length/\(∀ i p,bK[i]?=some p->i<lo->p.2<=x)/\(∀ i p,bK[i]?=some p->hi<=i->x<p.2),fun σ' H' z=>z,?_⟩;have em:((lo:Int)+hi) / 2=((lo+hi) / 2:Nat):=by lia
  exists Y,Y,Z,Z,⟨E,E⟩;obtain⟨mid,hm⟩:∃ mid,mid=(lo+hi) / 2:=⟨Y⟩;have eP:bK[mid]?=some bK[mid]:=qM ∅;have eA:as[mid]?=some as[mid]:=qM ∅;obtain⟨pp,Uv,hpp⟩:=p1.get eA;rw[eP]at Uv;cases Uv
  have ix:pG (as.map V.ref) (((lo:Int)+hi) / 2)=some (.ref as[mid]):=by
   rw[em,← hm];exact dc (by rw[fP,eA];rfl)
  refine⟨Y,Y,r,K,V,bI.of h1,ix,as[mid],K,V,cY.of hpp,Lp,Y,Z,Y,cW (λc2=>?_) (λc2=>?_)⟩
  ·have d:x<bK[mid].2:=of_decide_eq_true c2;refine⟨Y,mid-lo,Q,lo,mid,some (.int (((lo:Int)+hi) / 2)),?_,V,Q,Q,b1,λi p hp Zo=>?_⟩
   ·rw[hm,← em];rfl
   ·have:=Fz Fx eP hp Zo;lia
  ·have d:¬ x<bK[mid].2:=λz=>c2 (decide_eq_true z);refine⟨Y,Z,hi-(mid+1),Q,mid+1,hi,some (.int (((lo:Int)+hi) / 2)),?_,V,Q,hl,λi p hp Zo=>?_,b2⟩
   ·have:((lo:Int)+hi) / 2+1=((mid+1:Nat):Int):=by lia
    rw[← this];rfl
   ·have:=Fz Fx hp eP ∅;lia
 ·have c':¬ (lo:Int)<hi:=λz=>c (decide_eq_true z);have e:hi=lo:=by lia
  subst e;exact⟨Y,k hi ⟨hl,b1,b2⟩⟩
theorem jr:aH ["start","stop","holes","told","left","hole"] ["start","stop","holes"] (aA uo):=fc
theorem Dw:‹(2,12,["start","stop","holes"],Wl)›:=λD=>by
 specialize fG D.ZH.F jr;obtain⟨r,bK,a,b,rfl,R,Fx,dO,ab,k⟩:=h;exists _,(aj (aU (i:=3) jr.nd (bM ah)) (aj (aU (i:=4) jr.nd (pv 0)) (aj (aU (i:=5) jr.nd (aC D.ZG (vO D) hr (aa (pv 2) (aa (pv 0) ah)))) (aj (qV PassesOwn.never (PW.pt (qR (aV mJ (pv 5) (fX D.T.fj (pv 2)) (bh _)) (nG (aV mJ (aP aX (aP bG (pv 2) (pv 5)) ay) (pv 1) (bh _))))) (aj (aT (dX qC jX jY bU (pv 3) (aa (cJ (aa (pv 4) (aa (b9 (mj rfl) rfl D.T.zV PyProof.Rows.boot_max (aa (pv 4) (aa (aP aX (aP bG (pv 2) (pv 5)) ay) ah))) ah))) ah))) (aj (aU (i:=4) jr.nd (b9 (oQ rfl) rfl D.T.Fo PyProof.Rows.boot_min (aa (aP aX (aP bG (pv 2) (pv 5)) ay) (aa (pv 1) ah)))) (au (qU (i:=5) jr.nd rfl (Or.inl rfl) ay Nl))))) (aj (aT (dX qC jX jY bU (pv 3) (aa (cJ (aa (pv 4) (aa (pv 1) ah))) ah))) (au (aN (pv 3))))))));refine⟨iG,λq hq=>?_⟩;have s0:aK H (aM H q (.lst [])):=ak hq _;refine⟨Y,Y,Y,r,bK,a,rfl,R.same s0,Fx,λn fn=>?_⟩;obtain⟨as,h1,p1⟩:=id R;have n1:=p1.len;obtain⟨d1,d2⟩:=fn.drop;have fnl:=fn.1;obtain⟨o1,o2,o3⟩:=Ur b (bK.drop n) a ab d1 (Fx.drop n);have ol:=OI b (bK.drop n) a;rw[qO]at ol
 have res:bu (lo b a (bK.drop n))=iM bK (fN (a,b)):=by
  rw[o2];refine rG λx hx=>(d2 x ?_).symm;have:=(kK.mp hx).1;simpa using this
 exists λm σ H2=>∃ (i:Nat) (l:Int) (ts:List Addr) (lG:Row),σ=[some (.int a),some (.int b),some (.ref r),some (.ref q),some (.int l),some (.int i)]/\H2 q=some (.lst (ts.map V.ref))/\bg H2 ts lG/\lG++lo b l (bK.drop i)=lo b a (bK.drop n)/\n<=i/\i<=bK.length/\m=bK.length-i/\aK H H2,⟨_,n,a,[],[],rfl,af,.nil,rfl,fH _,fnl,rfl,s0⟩;rintro m σ H2 ⟨i,l,ts,lG,rfl,eL,hb,eq,ni,il,rfl,s2⟩;have tl:=hb.len;have el:=congrArg List.length eq;rw[cP]at el;have Ud:=s2 _ _ h1;exists Y,Y,r,Y,.inl (bI.of Ud),Z,Y;rw[cz,n1];refine Kl (p:=(i:Int)<bK.length) (q:=(bK.getD i (0,0)).1<b) (λpi z=>?_) (λc=>?_) (λc=>?_)
 ·have li:i<bK.length:=by lia
  have eP:bK[i]?=some bK[i]:=qM li;have eA:as[i]?=some as[i]:=qM ∅;obtain⟨pp,Uv,hpp⟩:=p1.get eA;rw[eP]at Uv;cases Uv;have gd:bK.getD i (0,0)=bK[i]:=by rw[List.getD_eq_getElem?_getD,eP];rfl
  rw[gd]at z;exact⟨Y,Y,r,K,V,bI.of Ud,dc (by rw[fP,eA];rfl),as[i],K,V,cY.of (s2 _ _ hpp),Oc,Y,Z,Y,z⟩
 ·obtain⟨pi,c2⟩:=c;have li:i<bK.length:=by lia
  have eP:bK[i]?=some bK[i]:=qM li;have eA:as[i]?=some as[i]:=qM ∅;obtain⟨pp,Uv,hpp⟩:=p1.get eA;rw[eP]at Uv;cases Uv;have gd:bK.getD i (0,0)=bK[i]:=by rw[List.getD_eq_getElem?_getD,eP];rfl
  rw[gd]at c2;have dr:bK.drop i=bK[i]::bK.drop (i+1):=List.drop_eq_getElem_cons li;have ix:pG (as.map V.ref) (i:Int)=some (.ref as[i]):=dc (by rw[fP,eA];rfl)
  have eq2:lG++[(l,if bK[i].1 > l then bK[i].1 else l)]++lo b (if b<bK[i].2 then b else bK[i].2) (bK.drop (i+1))=lo b a (bK.drop n):=by
   rw[← eq,dr,lo,if_pos c2,nC];rfl
  refine⟨fun σ' H'=>∃ m',m'<bK.length-i/\∃ (i:Nat) (l:Int) (ts:List Addr) (lG:Row),σ'=[some (.int a),some (.int b),some (.ref r),some (.ref q),some (.int l),some (.int i)]/\H' q=some (.lst (ts.map V.ref))/\bg H' ts lG/\lG++lo b l (bK.drop i)=lo b a (bK.drop n)/\n<=i/\i<=bK.length/\m'=bK.length-i/\aK H H',fun σ' H' z=>z,?_⟩;refine⟨Y,.inl ⟨rfl,_,bI.of eL⟩,Y,Y,Y,Y,r,K,V,bI.of Ud,ix,as[i],K,V,cY.of (s2 _ _ hpp),Oc,P,rfl,lF,λt ht=>⟨q,Z,ak ht _ _ _ eL,(by rw[cz];exact aR ∅),?_⟩⟩;obtain⟨g1,g2,g3⟩:=zJ (st:=l) (en:=if bK[i].1 > l then bK[i].1 else l) hq s2 eL hb ht;generalize aM (aM H2 t (.tup [.int l,.int (if bK[i].1 > l then bK[i].1 else l)])) q (.lst (ts.map V.ref++[.ref t]))=H3 at g1 g2 g3;exists Y,Y,r,K,V,bI.of (g3 _ _ h1),ix,as[i],K,V,cY.of (g3 _ _ hpp),Lp,Y,P,rfl;refine⟨Y,Z,bK.length-(i+1),Q,i+1,_,ts++[t],Y,g1,g2,eq2,Q,Q,rfl,g3⟩
 ·have last:lo b l (bK.drop i)=[(l,b)]:=by
   by_cases li:i<bK.length
   ·have dr:bK.drop i=bK[i]::bK.drop (i+1):=List.drop_eq_getElem_cons li;have gd:bK.getD i (0,0)=bK[i]:=by rw[List.getD_eq_getElem?_getD,qM li];rfl
    rw[dr,lo,if_neg (λz=>c ⟨Q,by rw[gd];exact z⟩)]
   ·rw[vg ∅];rfl
  rw[last]at eq;refine⟨Y,.inl ⟨rfl,_,bI.of eL⟩,Y,Y,lF,λt ht=>⟨q,Z,ak ht _ _ _ eL,(by rw[cz];exact aR ∅),?_⟩⟩;obtain⟨g1,g2,g3⟩:=zJ (st:=l) (en:=b) hq s2 eL hb ht;rw[eq]at g2;exact⟨Y,k q _ _ ⟨_,g1,g2⟩ o1 res o3 ∅ g3 hq⟩
theorem L0(aL:List aQ):(eN aL).length<=aL.length:=List.length_filterMap_le _ aL
class inductive WS
 | mk (r:Addr) (aL:List aQ) (_:vs=[.ref r]) (_:bz H (.ref r) aL) (_:aL.length<=100000) (_ :
 ∀ (o:Addr) (H':Hp),H' o=some (.lst ((eN aL).map V.int))->aK H H'->H o=none->Q (.ref o) H')
theorem Ma:aH ["items"] ["items"] (aA vv):=fc
theorem zY:‹(1,13,["items"],WS)›:=λD=>by
 specialize fG D.Wx.F Ma;obtain⟨r,aL,rfl,⟨a,vs,e,jP,hp⟩,dO,k⟩:=h;cases e;refine⟨_,(au (aN (gZ (N:=["item"]) (nL (sc:=aA vv) (NX:=["items"]) (jx:=[none]) rfl rfl rfl nofun nofun rfl nofun rfl nofun) rfl (cF (pv 0)) (λ_ _ _ _ _ _=>(b8 (i:=0) (show List.Nodup (["item"]:List Str) by decide +kernel))) (λ_ _ _ _ _ _=>C6 (aV dR (aP Ke (pv 0) ay) bH (bh _))) (λ_ _ _ _ _ _=>(aP Ke (pv 0) ay))))),?_⟩;refine⟨Y,r,rfl,⟨_,bI.of jP⟩,λacc cT=>gE (K:=K) (a:=r) (xs:=vs) (λi σ H2=>∃ u:Option V,σ=[u]/\H2 acc=some (.lst ((eN (aL.take i)).map V.int))/\aK H H2) ⟨none,rfl,af,ak cT _⟩ (by rintro i σ H2 _ ⟨_,_,_,s⟩;exact bI.of (s _ _ jP)) ?_ ?_⟩
 ·rintro i x σ H2 hi ⟨u,rfl,ha,s⟩;obtain⟨it,ei,b,rfl,hb⟩:=hp.get hi;have step:eN (aL.take (i+1))=eN (aL.take i)++eN [it]:=by rw[take_snoc ei,gi]
  have bl:(eN (aL.take i)).length<=100000:=by
   have z:=L0 (aL.take i);rw[gB]at z;lia
  cases it with
  | win n =>
   refine⟨Y,b,K,V,cY.of (s _ _ hb),V,Y,cW (λ_=>?_) (λz=>absurd (by decide) z)⟩;refine⟨Y,b,K,V,cY.of (s _ _ hb),rfl,_,ha,(by rw[cz];exact aR ∅),Y,?_,bS cT s (aG acc _ _)⟩;rw[af,step,gy];rfl
  | aI p q =>
   refine⟨Y,b,K,V,cY.of (s _ _ hb),V,Y,cW (λz=>absurd z (by decide)) (λ_=>?_)⟩;refine⟨Y,?_,s⟩;rw[ha,step];show _=some (HO.lst ((eN (aL.take i)++[]).map V.int));rw[gK]
 ·rintro σ H2 ⟨u,rfl,ha,s⟩;rw[hp.len,gQ]at ha;exact k acc H2 ha s cT
structure Mb(rows:cO)(ks:List Int):Prop where
 EA:∀ x∈ks,0<=x/\x<rows.length
 dn:∀ (i:Nat) (x:Int),ks[i]?=some x->∀ y,jO rows x y->y∈ks.take i
class inductive Si
 | mk (r L:Addr) (rows:cO) (ss:List Int) (_:vs=[.ref r,.ref L]) (_:gp H r (rows.map aF)) (_:H L=some (.lst (ss.map V.int))) (_:ss.length<=1000) (_:rows.length<=1000) (_:(∀ es∈rows,es.length<=1000)) (_:gr rows) (_:Dg rows) (_:(∀ s∈ss,0<=s/\s<rows.length)) (_ :
 ∀ (ks:List Int) (o:Addr) (H':Hp),H' o=some (.lst (ks.map V.int))->aK H H'->Mb rows ks->(∀ s∈ss,s∈ks)->ks.length<=1000->H o=none->Q (.ref o) H')
theorem Mb.snoc{rows:cO}{ks:List Int}{x:Int}(h:Mb rows ks)(h0:0<=x)(h1:x<rows.length)(hx:∀ y,jO rows x y->y∈ks):Mb rows (ks++[x]):=by
 refine⟨λy hy=>?_,λi y hi z hz=>?_⟩
 ·rcases List.mem_append.mp hy with q|q
  ·exact h.EA y q
  ·have:y=x:=by simpa using q
   lia
 ·by_cases c:i<ks.length
  ·rw[List.getElem?_append_left c]at hi;rw[List.take_append_of_le_length ∅];exact h.dn i y hi z hz
  ·have c2:i=ks.length:=by
    rcases Nat.lt_or_ge i (ks++[x]).length with q|q
    ·rw[cP,qD]at q;lia
    ·rw[List.getElem?_eq_none q]at hi;cases hi
   subst c2;rw[List.getElem?_append_right (fH _),Nat.sub_self]at hi;cases hi;rw[List.take_append_of_le_length (fH _),gQ];exact hx z hz
theorem Cj{kvs:List (eT × V)}{ks:List Int}(h:kvs.map (·.1)=ks.map Sum.inl)(x:Int):seen kvs x↔x∈ks:=by
 unfold seen;rw[← mX,List.any_eq_true];constructor
 ·rintro⟨p,hp,e⟩;have e':p.1=Sum.inl x:=of_decide_eq_true e;have:p.1∈ks.map (Sum.inl:Int->eT):=by rw[← h];exact List.mem_map_of_mem hp
  rw[e',List.mem_map]at this;obtain⟨y,hy,ey⟩:=this;rw[Sum.inl.inj ey]at hy;exact hy
 ·intro hx;have:(Sum.inl x:eT)∈kvs.map (·.1):=by rw[h];exact List.mem_map_of_mem hx
  obtain⟨p,hp,e⟩:=List.mem_map.mp this;exact⟨p,hp,decide_eq_true e⟩
structure Bel(rows:cO)(rk:Int->Nat)(H:Hp)(W S:Addr)(ss:List Int)(H2:Hp)(bs ps ks:List Int)(kvs:List (eT × V)):Prop where
 hW:H2 W=some (.lst ((bs++ps).map V.int))
 hS:H2 S=some (.dK kvs)
 sm:aK H H2
 ky:kvs.map (·.1)=ks.map Sum.inl
 tp:Mb rows ks
 rg:∀ x∈bs++ps,0<=x/\x<rows.length
 ns:∀ x∈ps,¬ seen kvs x
 pw:ps.Pairwise λa b=>rk b<rk a
 rb:∀ (i:Nat) (x:Int),ps[i]?=some x->rk x+i<=40
 st:∀ s∈ss,s∈bs\/s∈ks
 kl:kvs.length+oz rows.length kvs<=rows.length
 bl:bs.length<=1000
theorem Ck{kvs:List (eT × V)}{k:eT}(v:V)(h:(cI kvs k).isSome=true):(eK kvs k v).map (·.1)=kvs.map (·.1):=by
 unfold eK;rw[if_pos (by rw[mX];exact h),List.map_map];refine List.map_congr_left λp _=>?_;show (if p.1=k then (p.1,v) else p).1=p.1
 split <;> rfl
theorem Iz{rk:Int->Nat}{ps:List Int}(rb:∀ (i:Nat) (x:Int),ps[i]?=some x->rk x+i<=40):ps.length<=41:=by
 rcases nB ps with rfl|⟨p',n,rfl⟩
 ·simp
 ·rw[kX]at rb ⊢;have:=rb p'.length n (by rw[List.getElem?_append_right (fH _),Nat.sub_self];rfl);rw[cP,qD];lia
structure Top(rk:Int->Nat)(ss bs ps ks:List Int)(kvs:List (eT × V))(A4 wC:List Int)(n:Int):Prop where
 eq:bs++ps=A4++wC++[n]
 ns:∀ x∈wC,¬ seen kvs x/\x≠n
 pw:wC.Pairwise λa b=>rk b<rk a
 rb:∀ (i:Nat) (x:Int),wC[i]?=some x->rk x+i<=40
 st:∀ s∈ss,s∈A4\/s=n\/s∈ks
 old:seen kvs n->A4.length+50-wC.length<bs.length+50-ps.length
 le:A4.length+50-wC.length<=bs.length+51-ps.length
 bl:A4.length<=bs.length
 up:∀ y:Int,rk y<=40->rk y<rk n->(ps++[y]).Pairwise (λa b=>rk b<rk a)/\∀ (i:Nat) (x:Int),(ps++[y])[i]?=some x->rk x+i<=40
theorem Bel.top{rows:cO}{rk:Int->Nat}{H:Hp}{W S:Addr}{ss:List Int}{H2:Hp}{bs ps ks:List Int}{kvs:List (eT × V)}(B:Bel rows rk H W S ss H2 bs ps ks kvs):bs++ps=[]\/∃ A4 wC n,Top rk ss bs ps ks kvs A4 wC n:=by
 have OY:∀ (qs:List Int) (y:Int),(∀ (i:Nat) (x:Int),qs[i]?=some x->rk x+i<=40)->rk y+qs.length<=40->∀ (i:Nat) (x:Int),(qs++[y])[i]?=some x->rk x+i<=40:=by
  intro qs y h1 h2 i x hx;rcases Nat.lt_or_ge i qs.length with q|q
  ·rw[List.getElem?_append_left q]at hx;exact h1 i x hx
  ·have qi:i=qs.length:=by
    rcases Nat.lt_or_ge i (qs++[y]).length with w|w
    ·rw[cP,qD]at w;lia
    ·rw[List.getElem?_eq_none w]at hx;cases hx
   subst qi;rw[List.getElem?_append_right (fH _),Nat.sub_self]at hx;cases hx;exact h2
 rcases nB ps with rfl|⟨wC,n,rfl⟩
 ·rcases nB bs with rfl|⟨A4,n,rfl⟩
  ·exact .inl rfl
  ·rw[kX]at B ⊢;refine .inr ⟨A4,[],n,by simp,by simp,by simp,by simp,λs hs=>?_,λ_=>?_,?_,?_,λy h1 h2=>⟨by simp,OY [] y (by simp) (by simpa using h1)⟩⟩
   ·rcases B.st s hs with z|z
    ·rcases List.mem_append.mp z with z|z
     ·exact .inl z
     ·exact .inr (.inl (by simpa using z))
    ·exact .inr (.inr z)
   ·rw[cP,qD];simp only[qQ];lia
   ·rw[cP,qD];simp only[qQ];lia
   ·rw[cP,qD];lia
 ·rw[kX]at B ⊢;have pwd:=List.pairwise_append.mp B.pw;have rbn:=B.rb wC.length n (by rw[List.getElem?_append_right (fH _),Nat.sub_self];rfl);refine .inr ⟨bs,wC,n,by rw[nC],λx hx=>⟨B.ns x (qE _ hx),λe=>?_⟩,pwd.1,λi x hx=>?_,λs hs=>(B.st s hs).elim .inl λz=>.inr (.inr z),λz=>absurd z (B.ns n (by simp)),?_,fH _,λy h1 h2=>⟨?_,OY _ y B.rb ?_⟩⟩
  ·subst e;exact Nat.lt_irrefl _ (pwd.2.2 x hx x (by simp))
  ·refine B.rb i x ?_;rw[List.getElem?_append_left]
   ·exact hx
   ·rcases Nat.lt_or_ge i wC.length with q|q
    ·exact q
    ·rw[List.getElem?_eq_none q]at hx;cases hx
  ·rw[cP,qD];lia
  ·rw[List.pairwise_append];refine⟨B.pw,by simp,λa ha c hc=>?_⟩;have:c=y:=by simpa using hc
   subst this;rcases List.mem_append.mp ha with q|q
   ·have:=pwd.2.2 a q n (by simp);lia
   ·have:a=n:=by simpa using q
    subst this;exact h2
  ·rw[cP,qD];lia
def Uw(rows:cO)(rk:Int->Nat)(H:Hp)(r L W S:Addr)(ss:List Int)(m:Nat)(σ:L2.St)(H2:Hp):Prop:=∃ (bs ps ks:List Int) (kvs:List (eT × V)) (u v:Option V),σ=[some (.ref r),some (.ref L),some (.ref S),some (.ref W),u,v]/\Bel rows rk H W S ss H2 bs ps ks kvs/\m=100*oz rows.length kvs+(bs.length+50-ps.length)
theorem vP:aH ["rows","sheets","told","waiting","number","missing"] ["rows","sheets"] (aA CZ):=fc
theorem FA:‹(2,14,["rows","sheets"],Si)›:=λD=>by
 refine fG D.Wy.F vP λdm A zn s0 H vs Q E hr h=>?_;obtain⟨r,L,rows,ss,rfl,hR,hL,hsl,dO,hes,qp,⟨rk,hrb,yC⟩,hin,k⟩:=h;have hu:=gT hr;refine⟨_,(aj (aU (i:=2) vP.nd mY) (aj (aU (i:=3) vP.nd (cR cS rfl D.T.gu oM (aa (pv 1) ah))) (aj (qV PassesOwn.never (ku (pv 3) (λ_=>rfl)) (aj (aU (i:=4) vP.nd (aP bG (pv 3) (gG eG ay))) (aj (Kf (N:=["other","told"]) (i:=5) (nL (sc:=aA CZ) (NX:=["rows","sheets","told","waiting","number","missing"]) (jx:=[none,some 2]) rfl rfl rfl nofun nofun rfl nofun rfl nofun) rfl vP.nd rfl rfl (cF (aC D.Wx (zY D) hr (aa (aP bG (pv 0) (pv 4)) ah))) (λ_ _ _ _ _ _=>(b8 (i:=0) (show List.Nodup (["other","told"]:List Str) by decide +kernel))) (λ_ _ _ _ _ _=>C6 (CL (BY hu (pv 0) (pv 1)))) (λ_ _ _ _ _ _=>(pv 0))) (au (bP (ku (pv 5) (λ_=>rfl)) (au (aT (dX qC jX jY bU (pv 3) (aa (aP bG (pv 5) ay) ah)))) (aj (vC hu (pv 2) (pv 4) qm rfl) (au (aT (NK qC PySem.F.slot_list_pop PySem.F.type_list_pop NP (pv 3)))))))))) (au (aN (cR (Ie rfl) rfl D.T.gu oM (aa (pv 2) ah))))))),?_⟩;intro S hS;have s1:aK H (aM H S (.dK [])):=ak hS _;refine⟨Y,L,Y,.inl (bI.of (s1 _ _ hL)),λW hW=>?_⟩;have s2:=s1.trans (ak hW (.lst (ss.map V.int)))
 have Sj:H W=none:=by
  cases e:H W with
  | none=>rfl
  | some o=>exact absurd ((s1 _ _ e).symm.trans hW) (by simp)
 have Ux:W≠S:=(az af hW).symm;refine⟨Uw rows rk H r L W S ss,⟨_,ss,[],[],[],none,none,rfl,⟨(by rw[af,gK]),ak hW _ _ _ af,s2,rfl,⟨(λx hx=>by cases hx),λi x hi=>by simp at hi⟩,(λx hx=>hin x (by simpa using hx)),by simp,by simp,by simp,(λs hs=>.inl hs),?_,hsl⟩,rfl⟩,?_⟩
 ·have:=zS rows.length (λi=>(cI ([]:List (eT × V)) (Sum.inl (i:Int))).isNone);show 0+cnt rows.length _<=_;lia
 rintro m σ H2 ⟨bs,ps,ks,kvs,u,v,rfl,B,rfl⟩;exists Y,!((bs++ps).map V.int).isEmpty,.inl ⟨_,bI.of B.hW,rfl⟩;rcases B.top with en|⟨A4,wC,n,t⟩
 ·have e2:(!((bs++ps).map V.int).isEmpty)=false:=by rw[en];rfl
  rw[e2];refine gh ?_
  have ek:kvs.map (λp=>kV p.1)=ks.map V.int:=by
   have z:kvs.map (λp=>kV p.1)=(kvs.map (·.1)).map kV:=by rw[List.map_map];rfl
   rw[z,B.ky,List.map_map];rfl
  have kl:ks.length=kvs.length:=by
   have z:=congrArg List.length B.ky;rw[cz,cz]at z;exact z.symm
  have kll:=B.kl;refine⟨Y,S,kvs,rfl,B.hS,λl hl=>?_⟩;refine k ks l _ (by rw[af,ek]) (B.sm.trans (ak hl _)) B.tp (λs hs=>(B.st s hs).elim (λz=>?_) id) ∅ ?_
  ·rw[(List.append_eq_nil_iff.mp en).1]at z;cases z
  cases e:H l with
  | none=>rfl
  | some o=>exact absurd ((B.sm _ _ e).symm.trans hl) (by simp)
 have eW:=B.hW;rw[t.eq]at eW;rw[t.eq];refine cW (λ_=>?_) (λz=>absurd (by simp) z);refine⟨fun σ' H'=>∃ m',m'<100*oz rows.length kvs+(bs.length+50-ps.length)/\Uw rows rk H r L W S ss m' σ' H',fun σ' H' z=>z,?_⟩;have an:pG ((A4++wC++[n]).map V.int) (-1)=some (.int n):=by rw[gy];exact fT _ _
 obtain⟨n0,n1⟩:=B.rg n (by rw[t.eq];simp);have tl:=t.le;have TZ:=t.bl;have pl:=Iz B.rb;have pl':=Iz t.rb;have bbl:=B.bl;obtain⟨es,eS⟩:∃ es,rows[n.toNat]?=some es:=⟨_,qM ∅⟩;have WT:=hes es (pA eS);obtain⟨yf,Fv,vQ⟩:=hR.same B.sm;obtain⟨vi,A5,hI⟩:=vQ.get' (i:=n.toNat) (b:=aF es) (by rw[fP,eS];rfl);obtain⟨b,IA,rfl,hb,rE⟩:=id hI;have hil:=sJ es []
 have vR:pG yf n=some (.ref b):=by
  have z:=dc A5;rw[show ((n.toNat:Nat):Int)=n by lia]at z;exact z
 exists Y,Y,W,K,V,bI.of eW,an;refine⟨Y,Y,r,K,V,bI.of Fv,vR,b,aF es,rfl,hI,?_,λz H4 hz s4 nz=>?_⟩
 ·show (es.foldl bC []).length<=_;simp only[qQ]at hil;lia
 rw[iF]at hz;have aee:(dM es).length<=es.length:=List.length_filterMap_le _ es;have hS4:=s4 _ _ B.hS;have hW4:=s4 _ _ eW;refine⟨z,rfl,⟨_,bI.of hz⟩,λacc cT=>gE (K:=K) (a:=z) (xs:=(dM es).map V.int) (λi σ H5=>∃ u:Option V,σ=[u,some (.ref S)]/\H5 acc=some (.lst ((((dM es).take i).filter (λy=>(cI kvs (Sum.inl y)).isNone)).map V.int))/\aK H4 H5) ⟨none,rfl,af,ak cT _⟩ (by rintro i σ H5 _ ⟨_,_,_,s5⟩;exact bI.of (s5 _ _ hz)) ?_ ?_⟩
 ·rintro i x σ H5 hi ⟨u,rfl,h5,s5⟩;rw[fP]at hi;obtain⟨y,ey,rfl⟩:=Option.map_eq_some_iff.mp hi;have st:=take_snoc ey
  have bl:(((dM es).take i).filter (λy=>(cI kvs (Sum.inl y)).isNone)).length<=1000:=by
   have z:=List.length_filter_le (λy=>(cI kvs (Sum.inl y)).isNone) ((dM es).take i);rw[gB]at z;lia
  exists Y,Y,S,Y,jD.k (k:=Sum.inl y) (s5 _ _ hS4),Y
  cases ev:cI kvs (Sum.inl y) with
  | none =>
   refine jA ⟨Y,_,h5,(by rw[cz];exact aR ∅),Y,?_,bS cT s5 (aG acc _ _)⟩;rw[af,st,List.filter_append,List.filter_cons_of_pos (p:=λy=>(cI kvs (Sum.inl y)).isNone) (by rw[ev];rfl),gy];rfl
  | some o =>
   refine gh ⟨Y,?_,s5⟩;rw[st,List.filter_append,List.filter_cons_of_neg (p:=λy=>(cI kvs (Sum.inl y)).isNone) (by rw[ev];exact gf),List.filter_nil,gK];exact h5
 rintro σ H5 ⟨u,rfl,h5,s5⟩;rw[cz,gQ]at h5;have hS5:=s5 _ _ hS4;have hW5:=s5 _ _ hW4;have sm5:=B.sm.trans (s4.trans s5);have kll:=B.kl;exists Y,_,.inl ⟨_,bI.of h5,rfl⟩
 cases em:(dM es).filter (λy=>(cI kvs (Sum.inl y)).isNone) with
 | nil =>
  refine gh ?_
  have aeh:∀ y,jO rows n y->y∈ks:=by
   rintro y ⟨_,wz,J9,hy⟩;rw[eS]at J9;cases J9;rw[← Cj B.ky];have z:=List.filter_eq_nil_iff.mp em y hy;unfold seen
   cases q:cI kvs (Sum.inl y) with
   | none=>rw[q]at z;exact absurd rfl z
   | some o=>rfl
  refine⟨Y,Y,S,Y,Dc.k (k:=Sum.inl n) hS5 (aR ∅),?_⟩;have QD:(aM H5 S (.dK (eK kvs (Sum.inl n) (.bl true)))) W=some (.lst ((A4++wC++[n]).map V.int)):=by rw[aJ Ux];exact hW5
  refine⟨Y,.inl ⟨rfl,_,bI.of QD⟩,W,_,.int n,V,QD,(by simp),?_⟩;have ee:((A4++wC++[n]).map V.int).dropLast=(A4++wC).map V.int:=by rw[gy (l₁:=A4++wC),List.map_singleton,List.dropLast_concat]
  rw[ee];have rg':∀ x∈A4++wC,0<=x/\x<rows.length:=λx hx=>B.rg x (by rw[t.eq];exact qE _ hx)
  cases en:cI kvs (Sum.inl n) with
  | none =>
   have mp:=Fe (n:=rows.length) (.bl true) n0 n1 en;refine⟨100*oz rows.length (eK kvs (Sum.inl n) (.bl true))+(A4.length+50-wC.length),Q,A4,wC,ks++[n],eK kvs (Sum.inl n) (.bl true),P,rfl,⟨af,(by rw[aJ Ux.symm,af]),bS Sj (bS hS sm5 (aG S _ _)) (aG W _ _),?_,B.tp.snoc n0 n1 aeh,rg',λx hx=>?_,t.pw,t.rb,λs hs=>?_,?_,Q⟩,rfl⟩
   ·rw[zM _ en,gy,B.ky,gy];rfl
   ·intro q;rcases (Fd _).mp q with e|e
    ·exact (t.ns x hx).2 e
    ·exact (t.ns x hx).1 e
   ·rcases t.st s hs with q|q|q
    ·exact .inl q
    ·exact .inr (by rw[q];simp)
    ·exact .inr (qE _ q)
   ·rw[zM _ en,cP,qD]at *;lia
  | some o =>
   have sn:seen kvs n:=by unfold seen;rw[en];rfl
   have so:=t.old sn
   have sp:∀ x,seen (eK kvs (Sum.inl n) (.bl true)) x↔seen kvs x:=λx=>by
    rw[Fd];exact⟨λz=>z.elim (λe=>by rw[e];exact sn) id,.inr⟩
   have ms:oz rows.length (eK kvs (Sum.inl n) (.bl true))=oz rows.length kvs:=by
    refine Ox _ λi _=>?_;have z:=sp (i:Int);unfold seen at z
    cases q1:cI (eK kvs (Sum.inl n) (.bl true)) (Sum.inl (i:Int)) with
    | none =>
     cases q2:cI kvs (Sum.inl (i:Int)) with
     | none=>rfl
     | some o2=>rw[q1,q2]at z;exact absurd (z.mpr rfl) gf
    | some o1 =>
     cases q2:cI kvs (Sum.inl (i:Int)) with
     | none=>rw[q1,q2]at z;exact absurd (z.mp rfl) gf
     | some o2=>rfl
   have kn:n∈ks:=(Cj B.ky n).mp sn;refine⟨100*oz rows.length (eK kvs (Sum.inl n) (.bl true))+(A4.length+50-wC.length),by rw[ms];lia,A4,wC,ks,eK kvs (Sum.inl n) (.bl true),P,rfl,⟨af,(by rw[aJ Ux.symm,af]),bS Sj (bS hS sm5 (aG S _ _)) (aG W _ _),?_,B.tp,rg',λx hx q=>(t.ns x hx).1 ((sp x).mp q),t.pw,t.rb,λs hs=>?_,?_,Q⟩,rfl⟩
   ·rw[Ck _ (by rw[en];rfl),B.ky]
   ·rcases t.st s hs with q|q|q
    ·exact .inl q
    ·exact .inr (by rw[q];exact kn)
    ·exact .inr q
   ·have z:=congrArg List.length (Ck (kvs:=kvs) (k:=Sum.inl n) (.bl true) (by rw[en];rfl));rw[cz,cz]at z;rw[z,ms];exact kll
 | cons y ts =>
  refine jA ?_;rw[em]at h5;have ym:y∈(dM es).filter (λy=>(cI kvs (Sum.inl y)).isNone):=by rw[em];simp
  obtain⟨yw,yn⟩:=List.mem_filter.mp ym;have GY:jO rows n y:=⟨n0,es,eS,yw⟩;obtain⟨y0,y1⟩:=qp.Es GY;obtain⟨up1,up2⟩:=t.up y (hrb y) (yC n y GY);have wl:=congrArg List.length t.eq;rw[cP]at wl;refine⟨Y,.inl ⟨rfl,_,bI.of hW5⟩,Y,acc,K,V,bI.of h5,dc (xs:=V.int y::ts.map V.int) (j:=0) rfl,W,Z,hW5,(by rw[cz,← wl];exact aR ∅),?_⟩;have pl2:=Iz up2;rw[cP,qD]at pl2;refine⟨100*oz rows.length kvs+(bs.length+50-(ps++[y]).length),?_,bs,ps++[y],ks,kvs,P,rfl,⟨(by rw[af,← nC,t.eq,gy (l₁:=A4++wC++[n])];rfl),(by rw[aJ Ux.symm];exact hS5),bS Sj sm5 (aG W _ _),B.ky,B.tp,λx hx=>?_,λx hx=>?_,up1,up2,B.st,kll,bbl⟩,rfl⟩
  ·rw[cP,qD];lia
  ·rw[← nC]at hx;rcases List.mem_append.mp hx with q|q
   ·exact B.rg x q
   ·have:x=y:=by simpa using q
    subst this;exact⟨y0,y1⟩
  ·rcases List.mem_append.mp hx with q|q
   ·exact B.ns x q
   ·have:x=y:=by simpa using q
    subst this;intro q;unfold seen at q
    cases w:cI kvs (Sum.inl x) with
    | none=>rw[w]at q;cases q
    | some o=>rw[w]at yn;cases yn
structure Bfs(rows:cO)(H:Hp)(W S:Addr)(s:Int)(H2:Hp)(vs:List V)(wl:cO)(kvs:List (eT × V)):Prop where
 hW:H2 W=some (.lst vs)
 hl:cu (eZ (λa=>a=W\/a=S) H2) vs wl
 hS:H2 S=some (.dK kvs)
 sm:aK H H2
 wk:∀ w∈wl,w.length<=kvs.length+1/\∃ e,w.getLast?=some e/\0<=e/\e<rows.length/\(e=s\/Reach (jO rows) s e)
 kl:kvs.length+oz rows.length kvs<=rows.length
class inductive Uy
 | mk (r:Addr) (rows:cO) (s g:Int) (_:vs=[.ref r,.int s,.int g]) (_:gp H r (rows.map aF)) (_:rows.length<=1000) (_:(∀ es∈rows,es.length<=1000)) (_:gr rows) (_:0<=s) (_:s<rows.length) (_:¬ Reach (jO rows) s g) (_:∀ H',aK H H'->Q .gm H')
theorem iW:aH ["rows","start","goal","ways","seen","way","number"] ["rows","start","goal"] (aA pH):=fc
def muW(n:Nat)(W S:Addr):L2.St->Hp->Nat:=λ_ H=>match H W,H S with
 | some (.lst vs),some (.dK kvs)=>2*oz n kvs+vs.length
 | _,_=>0
theorem OZ{n:Nat}{W S:Addr}{σ:L2.St}{H:Hp}{vs:List V}{kvs:List (eT × V)}(h1:H W=some (.lst vs))(h2:H S=some (.dK kvs)):muW n W S σ H=2*oz n kvs+vs.length:=by
 unfold muW;rw[h1,h2]
def Uz(rows:cO)(H:Hp)(r W S:Addr)(s g:Int)(σ:L2.St)(H2:Hp):Prop:=∃ (vs:List V) (wl:cO) (kvs:List (eT × V)) (u v:Option V),σ=[some (.ref r),some (.int s),some (.int g),some (.ref W),some (.ref S),u,v]/\Bfs rows H W S s H2 vs wl kvs/\vs.length+2*oz rows.length kvs<=2*rows.length+1
theorem zZ:‹(2,15,["rows","start","goal"],Uy)›:=λD=>by
 refine fG D.ZI.F iW λdm A zn s0 H vs Q E hr h=>?_;obtain⟨r,rows,s,g,rfl,hR,dO,hes,qp,h0,h1,nr,kN⟩:=h;have hu:=gT hr;refine⟨_,(aj (aU (i:=3) iW.nd (bM (aa (bM (aa (pv 1) ah)) ah))) (aj (aU (i:=4) iW.nd mY) (aj (qV PassesOwn.never (ku (pv 3) (λ_=>rfl)) (aj (aU (i:=5) iW.nd (dX qC PySem.F.slot_list_pop PySem.F.type_list_pop NQ (pv 3) (aa ay ah))) (au (dN PassesOwn.never rfl (cF (aC D.Wx (zY D) hr (aa (aP bG (pv 0) (aP bG (pv 5) (gG eG ay))) ah))) (b8 (i:=6) iW.nd) (aj (bP (aV dR (pv 6) (pv 2) (bh _)) (au (aN (bx jh (pv 5) (bM (aa (pv 2) ah))))) bf) (au (bP (CL (BY hu (pv 6) (pv 4))) (aj (vC hu (pv 4) (pv 6) qm rfl) (au (aT (dX qC jX jY bU (pv 3) (aa (bx jh (pv 5) (bM (aa (pv 6) ah))) ah))))) bf))))))) (au (aN Vk))))),?_⟩;refine⟨Y,m6,λa0 MZ=>⟨m6,λW hW=>?_⟩⟩;intro S hS;have s1:aK H (aM H a0 (.lst [.int s])):=ak MZ _;have s2:=s1.trans (ak hW (.lst [.ref a0]));have s3:=s2.trans (ak hS (.dK []))
 have Sj:H W=none:=by
  cases e:H W with
  | none=>rfl
  | some o=>exact absurd ((s1 _ _ e).symm.trans hW) (by simp)
 have H0S:H S=none:=by
  cases e:H S with
  | none=>rfl
  | some o=>exact absurd ((s2 _ _ e).symm.trans hS) (by simp)
 have Ux:W≠S:=az af hS;have n0W:a0≠W:=az af hW;have n0S:a0≠S:=az (ak hW _ _ _ af) hS;exists λm σ H2=>m=muW rows.length W S σ H2/\Uz rows H r W S s g σ H2,⟨Y,?_⟩
 ·have cl:=zS rows.length (λi=>(cI ([]:List (eT × V)) (Sum.inl (i:Int))).isNone);refine⟨[.ref a0],[[s]],[],none,none,rfl,⟨ak hS _ _ _ af,.cons ⟨a0,rfl,(λz=>z.elim n0W n0S),ak hS _ _ _ (ak hW _ _ _ af)⟩ .nil,af,s3,?_,?_⟩,?_⟩
  ·intro w hw;have:w=[s]:=by simpa using hw
   subst this;exact⟨by simp,s,rfl,h0,h1,.inl rfl⟩
  ·show 0+oz rows.length []<=rows.length;unfold oz;lia
  ·show 1+2*oz rows.length []<=_;unfold oz;lia
 ·rintro m σ H2 ⟨rfl,vs,wl,kvs,u,v,rfl,B,hml⟩;rw[OZ B.hW B.hS];exists Y,!vs.isEmpty,.inl ⟨vs,bI.of B.hW,rfl⟩
  cases vs with
  | nil =>
   exact gh (kN H2 B.sm)
  | cons v0 De =>
   refine jA ⟨fun σ' H'=>Uz rows H r W S s g σ' H'/\muW rows.length W S σ' H'<2*oz rows.length kvs+(v0::De).length,fun σ' H' ⟨p,l⟩=>⟨_,l,rfl,p⟩,?_⟩;obtain⟨hW2,xW,Wg,sm2,wk2,kl2⟩:=id B
   cases xW with
   | @cons _ w0 _ UA hv0 aek =>
   obtain⟨wa,rfl,nwa,hwa⟩:=id hv0;obtain⟨wlw,e,hle,e0,e1,Kq⟩:=wk2 w0 (by simp)
   have wal:∃ w1,w0=w1++[e]:=by
    rw[List.getLast?_eq_some_iff]at hle;exact hle
   obtain⟨w1,rfl⟩:=wal;obtain⟨es,eS⟩:∃ es,rows[e.toNat]?=some es:=⟨_,qM ∅⟩;have ael:es∈rows:=pA eS;have WT:=hes es ael;exists Y,.inl ⟨rfl,_,bI.of hW2⟩,W,_,0,0,.ref wa,V,hW2,E,E,(by simp[seqIndex?]),rfl;have ee:(V.ref wa::De).eraseIdx 0=De:=rfl;rw[ee];have aau:∀ {v:V} {ns:List Int},eZ (λa=>a=W\/a=S) H2 v ns->eZ (λa=>a=W\/a=S) (aM H2 W (.lst De)) v ns:=λh=>h.at _ (.inl rfl);have O0:aK H (aM H2 W (.lst De)):=bS Sj sm2 (aG W _ _);obtain⟨yf,LX,vQ⟩:=hR.same O0;obtain⟨vi,A5,hI⟩:=vQ.get' (i:=e.toNat) (b:=aF es) (by rw[fP,eS];rfl);obtain⟨b,IA,rfl,hb,rE⟩:=id hI
   have aem:(aM H2 W (.lst De)) wa=some (.lst (w1.map V.int++[.int e])):=by
    rw[aJ (λz=>nwa (.inl z)),hwa,gy];rfl
   have hil:=sJ es [];refine⟨Y,Y,Y,wa,K,V,bI.of aem,fT _ _,r,K,V,bI.of LX,?_,b,aF es,rfl,hI,?_,λz H4 hz s4 nz=>?_⟩
   ·have z:=dc A5;rw[show ((e.toNat:Nat):Int)=e by lia]at z;exact z
   ·show (es.foldl bC []).length<=_;simp only[qQ]at hil;lia
   rw[iF]at hz;have hW3:(aM H2 W (.lst De)) W=some (.lst De):=af;have Mc:(aM H2 W (.lst De)) S=some (.dK kvs):=by rw[aJ Ux.symm];exact Wg
   have nzW:z≠W:=(az hW3 nz).symm;have nzS:z≠S:=(az Mc nz).symm;have aee:(dM es).length<=es.length:=List.length_filterMap_le _ es;refine⟨z,rfl,⟨_,bI.of hz⟩,dH (K:=K) (a:=z) (xs:=(dM es).map V.int) (λi σ H5=>∃ (QE:List V) (Sk:cO) (qH:List (eT × V)) (v:Option V),σ=[some (.ref r),some (.int s),some (.int g),some (.ref W),some (.ref S),some (.ref wa),v]/\ Bfs rows H W S s H5 QE Sk qH/\eZ (λa=>a=W\/a=S) H5 (.ref wa) (w1++[e])/\eZ (λa=>a=W\/a=S) H5 (.ref z) (dM es)/\QE.length+2*oz rows.length qH<=De.length+2*oz rows.length kvs/\kvs.length<=qH.length) ?_ ?_ ?_ ?_⟩
   ·refine⟨De,UA,kvs,Y,⟨s4 _ _ hW3,aek.mono λ_ _ h=>(aau h).same s4,s4 _ _ Mc,O0.trans s4,λw hw=>wk2 w (mE _ hw),kl2⟩,(aau hv0).same s4,⟨z,rfl,λq=>q.elim nzW nzS,hz⟩,fH _,fH _⟩
   ·rintro i σ H5 _ ⟨_,_,_,_,_,_,_,⟨a,ea,_,ha⟩,_⟩;cases ea;exact bI.of ha
   ·rintro i x σ H5 hi ⟨QE,Sk,qH,v,rfl,B5,Sm,hz5,X6,hk5⟩;rw[fP]at hi;obtain⟨y,ey,rfl⟩:=Option.map_eq_some_iff.mp hi;have GY:jO rows e y:=⟨e0,es,eS,pA ey⟩;obtain⟨y0,y1⟩:=qp.Es GY
    have sy:Reach (jO rows) s y:=by
     rcases Kq with rfl|q
     ·exact .one GY
     ·exact .step q GY
    obtain⟨wa',ewa,aeo,aav⟩:=id Sm;cases ewa;have wl0:(w1++[e]).length<=2000:=by have:=B5.kl;lia
    refine⟨Y,Y,rfl,Y,cW (λc=>?_) (λc=>?_)⟩
    ·have eg:y=g:=V.int.inj (of_decide_eq_true c);exact absurd (eg ▸ sy) nr
    ·exists Y,Y,S,Y,jD.k (k:=Sum.inl y) B5.hS,Y
     cases ev:cI qH (Sum.inl y) with
     | some o1 =>
      refine gh ?_;exact⟨QE,Sk,qH,Y,B5,Sm,hz5,X6,hk5⟩
     | none =>
      refine jA ?_;have kll:=B5.kl;refine⟨Y,Y,S,Y,Dc.k (k:=Sum.inl y) B5.hS (aR ∅),?_⟩;have e6:∀ {v:V} {ns:List Int},eZ (λa=>a=W\/a=S) H5 v ns->eZ (λa=>a=W\/a=S) (aM H5 S (.dK (eK qH (Sum.inl y) (.bl true)))) v ns:=λh=>h.at _ (.inr rfl);have s6:aK H (aM H5 S (.dK (eK qH (Sum.inl y) (.bl true)))):=bS H0S B5.sm (aG S _ _);have QD:(aM H5 S (.dK (eK qH (Sum.inl y) (.bl true)))) W=some (.lst QE):=by rw[aJ Ux];exact B5.hW
      have aaw:(aM H5 S (.dK (eK qH (Sum.inl y) (.bl true)))) wa=some (.lst ((w1++[e]).map V.int)):=by rw[aJ (λq=>aeo (.inr q))];exact aav
      have WU:(aM H5 S (.dK (eK qH (Sum.inl y) (.bl true)))) S=some (.dK (eK qH (Sum.inl y) (.bl true))):=af;generalize aM H5 S (.dK (eK qH (Sum.inl y) (.bl true)))=H6 at e6 s6 QD aaw WU;have vl:QE.length<sizeLine:=aR (by simp only[lR]at hml;lia);refine⟨Y,.inl ⟨rfl,_,bI.of QD⟩,Y,Y,m6,λb1 Et=>⟨wa,b1,Z,ak Et _ _ _ aaw,af,gM (aR (by rw[cz];simp at wl0 ⊢;lia)),λo ho=>⟨W,Z,ak ho _ _ _ (ak Et _ _ _ QD),vl,?_⟩⟩⟩;have s7:aK H6 (aM H6 b1 (.lst [.int y])):=ak Et _;have s8:=s7.trans (ak ho (.lst ((w1++[e]).map V.int++[.int y])));have noW:o≠W:=(az (s7 _ _ QD) ho).symm;have noS:o≠S:=(az (s7 _ _ WU) ho).symm;have e9:∀ {v:V} {ns:List Int},eZ (λa=>a=W\/a=S) H5 v ns->eZ (λa=>a=W\/a=S) (aM (aM (aM H6 b1 (.lst [.int y])) o (.lst ((w1++[e]).map V.int++[.int y]))) W (.lst (QE++[.ref o]))) v ns:=λh=>((e6 h).same s8).at _ (.inl rfl);have mp:=Fe (n:=rows.length) (.bl true) y0 y1 ev;have pl:(eK qH (Sum.inl y) (.bl true)).length=qH.length+1:=by rw[zM _ ev];simp
      exists QE++[.ref o],Sk++[w1++[e]++[y]],eK qH (Sum.inl y) (.bl true),Y,⟨af,cu.snoc (B5.hl.mono λ_ _ h=>e9 h) ⟨o,rfl,λq=>q.elim noW noS,?_⟩,?_,bS Sj (s6.trans s8) (aG W _ _),?_,?_⟩,e9 Sm,e9 hz5,?_
      ·rw[aJ noW,af,gy (l₁:=w1++[e])];rfl
      ·rw[aJ Ux.symm];exact s8 _ _ WU
      ·intro w hw;rcases List.mem_append.mp hw with q|q
       ·obtain⟨q2,q3⟩:=B5.wk w q;exact⟨Q,q3⟩
       ·have:w=w1++[e]++[y]:=by simpa using q
        subst this;refine⟨?_,y,by simp,y0,y1,.inr sy⟩;rw[cP,qD,pl];lia
      ·lia
      ·rw[cP,qD];lia
      ·lia
   ·rintro σ H5 ⟨QE,Sk,qH,v,rfl,B5,Sm,hz5,X6,hk5⟩;simp only[lR]at hml;exists ⟨QE,Sk,qH,P,rfl,B5,Q⟩;rw[OZ B5.hW B5.hS,lR];lia
class inductive WV
 | mk (r:Addr) (s:Int) (_:vs=[.ref r,.int s]) (_:Uy [.ref r,.int s,.int s] H Q E)
theorem WW:aH ["rows","sheet"] ["rows","sheet"] (aA NZ):=fc
theorem Sn:‹(3,16,["rows","sheet"],WV)›:=λD=>by
 specialize fG D.ZJ.F WW;obtain⟨r,s,rfl,h⟩:=h;exists _,(au (aN (aC D.ZI (zZ D) hr (aa (pv 0) (aa (pv 1) (aa (pv 1) ah))))));exists Y,Y,Y;obtain⟨r',rows,s',g,e,h1,h2,h3,h4,h5,h6,nr,kN⟩:=h;cases e;exact⟨r,rows,s,s,rfl,h1,h2,h3,h4,h5,h6,nr,kN⟩
def kO(f:Int->Int)(es:List Int):Int:=(es.map λe=>if e<0 then 1+f (-1-e) else 1).sum
def Dy(f:Int->Int):aQ->Int
 | .win n=>1+f n
 | .aI a b=>b-a
def FD(f:Int->Int)(aL:List aQ):Int:=(aL.map (Dy f)).sum
theorem m8(f:Int->Int)(a b:List aQ):FD f (a++b)=FD f a+FD f b:=by unfold FD;rw[gy,List.sum_append]
theorem O1(f:Int->Int)(t:List aQ)(e:Int):FD f (bC t e)=FD f t+(if e<0 then 1+f (-1-e) else 1):=by
 unfold bC;by_cases h:e<0
 ·rw[if_pos h,if_pos h,m8];simp[FD,Dy]
 ·rw[if_neg h,if_neg h];rcases nB t with rfl|⟨t',l,rfl⟩
  ·simp[FD,Dy];lia
  ·rw[kX,jR]
   cases l with
   | win n =>
    show FD f (t'++[aQ.win n]++[.aI e (e+1)])=_;rw[m8];simp[FD,Dy];lia
   | aI a b =>
    show FD f (if b=e then (t'++[aQ.aI a b]).dropLast++[.aI a (e+1)] else (t'++[aQ.aI a b])++[.aI e (e+1)])=_;by_cases hb:b=e
    ·rw[if_pos hb,List.dropLast_concat,m8,m8];simp[FD,Dy];lia
    ·rw[if_neg hb,m8];simp[FD,Dy];lia
theorem Me(f:Int->Int)(es:List Int):FD f (aF es)=kO f es:=by
 have z:∀ t:List aQ,FD f (es.foldl bC t)=FD f t+kO f es:=by
  induction es with
  | nil=>intro t;simp[kO]
  | cons e es ih =>
   intro t;rw[kq,ih,O1];unfold kO;rw[jv,List.sum_cons];lia
 have:=z [];unfold aF;rw[this];simp[FD]
def Weighs(rows:cO)(f:Int->Int):Prop:=∀ (x:Int) (es:List Int),0<=x->rows[x.toNat]?=some es->f x=kO f es
def wF(rows:cO):Nat->Int->Int
 | 0,_=>0
 | k+1,x=>match rows[x.toNat]? with
  | some es=>kO (wF rows k) es
  | none=>0
theorem IB{f g:Int->Int}{es:List Int}(h:∀ y∈dM es,f y=g y):kO f es=kO g es:=by
 unfold kO;congr 1;refine List.map_congr_left λe he=>?_;by_cases c:e<0
 ·rw[if_pos c,if_pos c,h (-1-e) (cy.mpr ⟨Q,by rw[show -1-(-1-e)=e by lia];exact he⟩)]
 ·rw[if_neg c,if_neg c]
theorem Mf{rows:cO}(h:Dg rows):∃ f,Weighs rows f:=by
 obtain⟨rk,hb,hd⟩:=h
 have key:∀ (k:Nat) (x:Int),0<=x->rk x<k->wF rows k x=wF rows (k+1) x:=by
  intro k
  induction k with
  | zero=>intro x _ h;lia
  | succ k ih =>
   intro x x0 hx
   cases e:rows[x.toNat]? with
   | none=>simp[wF,e]
   | some es =>
    have e1:wF rows (k+1) x=kO (wF rows k) es:=by simp[wF,e]
    have e2:wF rows (k+1+1) x=kO (wF rows (k+1)) es:=by
     show (match rows[x.toNat]? with|some es=>kO (wF rows (k+1)) es|none=>0)=_;rw[e]
    rw[e1,e2];refine IB λy hy=>ih y (cy.mp hy).1 ?_;have:=hd x y ⟨x0,es,e,hy⟩;lia
 refine⟨wF rows 41,λx es x0 he=>?_⟩;rw[key 41 x x0 (by have:=hb x;lia)];show (match rows[x.toNat]? with|some es=>kO (wF rows 41) es|none=>0)=_;rw[he]
class inductive aep
 | mk (v:V) (it:aQ) (S:Addr) (kvs:List (eT × V)) (f:Int->Int) (_:vs=[v,.ref S]) (_:cG H v it) (_:H S=some (.dK kvs)) (_:(∀ n,it=.win n->cI kvs (Sum.inl n)=some (.int (f n)))) (_:Q (.int (Dy f it)) H)
theorem A6:aH ["item","weights"] ["item","weights"] (aA pI):=fc
theorem Aa:‹(1,17,["item","weights"],aep)›:=λD=>by
 specialize fG D.ZK.F A6;obtain⟨v,it,S,kvs,f,rfl,⟨a,rfl,ha⟩,hS,hw,k⟩:=h;have hu:=gT hr;exists _,(aj (bP (aV dR (aP aX (pv 0) ay) bH (bh _)) (au (aN (bx dD ay (ie hu (pv 1) (aP aX (pv 0) ay))))) bf) (au (aN (bx cQ (aP aX (pv 0) ay) (aP aX (pv 0) ay)))))
 cases it with
 | win n =>
  refine⟨Y,a,K,V,cY.of ha,V,Y,cW (λ_=>?_) (λz=>absurd (by decide) z)⟩;have z:=jD.k (k:=Sum.inl n) hS;rw[hw n rfl]at z;exact⟨Y,Y,a,K,V,cY.of ha,rfl,S,Y,z,Z,k⟩
 | aI p q =>
  refine⟨Y,a,K,V,cY.of ha,V,Y,cW (λz=>absurd z (by decide)) (λ_=>?_)⟩;exact⟨Y,a,K,V,cY.of ha,rfl,Y,a,K,V,cY.of ha,rfl,Z,k⟩
class inductive IC
 | mk (r L:Addr) (rows:cO) (ss:List Int) (f:Int->Int) (_:vs=[.ref r,.ref L]) (_:gp H r (rows.map aF)) (_:H L=some (.lst (ss.map V.int))) (_:ss.length<=1000) (_:rows.length<=1000) (_:(∀ es∈rows,es.length<=1000)) (_:gr rows) (_:Dg rows) (_:(∀ s∈ss,0<=s/\s<rows.length)) (_:Weighs rows f) (_ :
 ∀ (S:Addr) (kvs:List (eT × V)) (H':Hp),H' S=some (.dK kvs)->(∀ s∈ss,cI kvs (Sum.inl s)=some (.int (f s)))->aK H H'->H S=none->Q (.ref S) H')
theorem lH:aH ["rows","sheets","weights","number"] ["rows","sheets"] (aA jB):=fc
theorem xq:‹(3,18,["rows","sheets"],IC)›:=λD=>by
 refine fG D.ZL.F lH λdm A zn s0 H vs Q E hr h=>?_;obtain⟨r,L,rows,ss,f,rfl,hR,hL,hsl,dO,hes,qp,yC,hin,hf,k⟩:=h;have hu:=gT hr;refine⟨_,(aj (aU (i:=2) lH.nd mY) (aj (dN PassesOwn.never rfl (cF (aC D.Wy (FA D) hr (aa (pv 0) (aa (pv 1) ah)))) (b8 (i:=3) lH.nd) (au (vC hu (pv 2) (pv 3) (b9 (ET rfl) rfl D.T.Uu PyProof.Rows.boot_sum (aa (gZ (N:=["item","weights"]) (nL (sc:=aA jB) (NX:=["rows","sheets","weights","number"]) (jx:=[none,some 2]) rfl rfl rfl nofun nofun rfl nofun rfl nofun) rfl (cF (aP bG (pv 0) (pv 3))) (λ_ _ _ _ _ _=>(b8 (i:=0) (show List.Nodup (["item","weights"]:List Str) by decide +kernel))) (λ_ _ _ _ _ _=>jb) (λ_ _ _ _ _ _=>(aC D.ZK (Aa D) hr (aa (pv 0) (aa (pv 1) ah))))) ah)) rfl))) (au (aN (pv 2))))),?_⟩;intro S hS;have s1:aK H (aM H S (.dK [])):=ak hS _;refine⟨Y,Y,r,L,rows,ss,rfl,hR.same s1,s1 _ _ hL,hsl,dO,hes,qp,yC,hin,λks o H2 ho s2 tp sk kl YX=>?_⟩;have Wg:=s2 _ _ (af (H:=H) (a:=S) (o:=.dK []));have noS:o≠S:=(az af YX).symm;refine⟨o,rfl,⟨_,bI.of ho⟩,dH (K:=K) (a:=o) (xs:=ks.map V.int) (λi σ H3=>∃ (kvs:List (eT × V)) (u:Option V),σ=[some (.ref r),some (.ref L),some (.ref S),u]/\H3 S=some (.dK kvs)/\(∀ y∈ks.take i,cI kvs (Sum.inl y)=some (.int (f y)))/\kvs.length<=i/\(∀ a ob,a≠S->H2 a=some ob->H3 a=some ob)) ⟨[],none,rfl,Wg,(λy hy=>by simp at hy),fH _,λ_ _ _ e=>e⟩ ?_ ?_ ?_⟩
 ·rintro i σ H3 _ ⟨_,_,_,_,_,_,k3⟩;exact bI.of (k3 o _ noS ho)
 ·rintro i x σ H3 hi ⟨kvs,u,rfl,Mc,M0,hk3,k3⟩;rw[fP]at hi;obtain⟨x,ex,rfl⟩:=Option.map_eq_some_iff.mp hi;obtain⟨x0,x1⟩:=tp.EA x (pA ex);obtain⟨es,eS⟩:∃ es,rows[x.toNat]?=some es:=⟨_,qM ∅⟩;have WT:=hes es (pA eS);have O0:aK H H3:=λa ob e=>k3 a ob (az e hS) (s2 _ _ (s1 _ _ e));obtain⟨yf,LX,vQ⟩:=hR.same O0;obtain⟨vi,A5,hI⟩:=vQ.get' (i:=x.toNat) (b:=aF es) (by rw[fP,eS];rfl);obtain⟨b,IA,rfl,hb,rE⟩:=id hI;have hil:=sJ es []
  have aki:(aF es).length<=1000:=by
   show (es.foldl bC []).length<=_;simp only[qQ]at hil;lia
  have vR:pG yf x=some (.ref b):=by
   have z:=dc A5;rw[show ((x.toNat:Nat):Int)=x by lia]at z;exact z
  refine⟨Y,Y,r,K,V,bI.of LX,vR,b,rfl,⟨_,bI.of hb⟩,λacc cT=>gE (K:=K) (a:=b) (xs:=IA) (λj σ H5=>∃ u:Option V,σ=[u,some (.ref S)]/\H5 acc=some (.lst ((((aF es).take j).map (Dy f)).map V.int))/\aK H3 H5) ⟨none,rfl,af,ak cT _⟩ (λj σ H5 _ ⟨K,s5⟩=>bI.of (s5 _ _ hb)) ?_ ?_⟩
  ·rintro j v σ H5 hj ⟨u,rfl,h5,s5⟩;obtain⟨it,ei,hiv⟩:=rE.get hj;have st:=take_snoc ei;unfold tM Of;refine jA ⟨Y,Y,v,it,S,kvs,f,rfl,hiv.same s5,s5 _ _ Mc,λn hn=>?_,?_⟩
   ·subst hn;refine M0 n (tp.dn i x ex n ⟨x0,es,eS,?_⟩);rw[← iF];unfold eN;rw[List.mem_filterMap];exact⟨.win n,pA ei,rfl⟩
   ·refine⟨_,h5,(by rw[cz,cz,gB];exact aR ∅),Y,?_,bS cT s5 (aG acc _ _)⟩;rw[af,st,gy,gy];rfl
  ·rintro σ H5 ⟨u,rfl,h5,s5⟩;rw[rE.len,gQ]at h5;have es1:((aF es).map (Dy f)).sum=f x:=by rw[hf x es x0 eS];exact Me f es
   have hS5:=s5 _ _ Mc
   have kvl:i<ks.length:=by
    rcases Nat.lt_or_ge i ks.length with q|q
    ·exact q
    ·rw[List.getElem?_eq_none q]at ex;cases ex
   exists acc,Y,bI.of h5;rw[es1];refine⟨Y,Y,S,Y,Dc.k (k:=Sum.inl x) hS5 (aR ∅),?_⟩;refine⟨eK kvs (Sum.inl x) (.int (f x)),Y,af,λy hy=>?_,?_,λa ob n e=>?_⟩
   ·rw[kJ];rw[take_snoc ex]at hy;by_cases c:y=x
    ·rw[if_pos (by rw[c]),c]
    ·rw[if_neg (λz=>c (Sum.inl.inj z))];rcases List.mem_append.mp hy with q|q
     ·exact M0 y q
     ·exact absurd (by simpa using q) c
   ·have:=gY kvs (Sum.inl x) (V.int (f x));lia
   ·rw[aJ n];exact s5 _ _ (k3 a ob n e)
 ·rintro σ H3 ⟨kvs,u,rfl,Mc,M0,hk3,k3⟩;rw[cz,gQ]at M0;exact⟨Y,k S kvs H3 Mc (λs hs=>M0 s (sk s hs)) (λa ob e=>k3 a ob (az e hS) (s2 _ _ (s1 _ _ e))) hS⟩
def qt(g:Int->Row):aQ->Row
 | .win n=>g n
 | .aI a b=>[(a,b)]
def aW(sh:Int->List Int)(e:Int):List Int:=if e<0 then sh (-1-e) else [e]
def aS(sh:Int->List Int)(es:List Int):List Int:=es.flatMap (aW sh)
def m9(rows:cO)(sh:Int->List Int):Prop:=∀ (x:Int) (es:List Int),0<=x->rows[x.toNat]?=some es->sh x=aS sh es
def bw(sh:Int->List Int)(aL:List aQ):Row:=aL.flatMap (qt λn=>cK (sh n))
def tV(t:List aQ):Prop:=∀ a b,aQ.aI a b∈t->a<b
theorem ef(sh:Int->List Int)(a b:List aQ):bw sh (a++b)=bw sh a++bw sh b:=by unfold bw;rw[List.flatMap_append]
theorem jk(sh:Int->List Int)(it:aQ):bw sh [it]=qt (λn=>cK (sh n)) it:=by simp[bw]
theorem Mg(sh:Int->List Int)(t:List aQ)(e:Int)(ok:tV t):bu (bw sh (bC t e))=bu (bw sh t)++aW sh e/\tV (bC t e):=by
 have add:∀ it:aQ,(∀ a b,it=.aI a b->a<b)->tV (t++[it]):=λit h a b hm=>by
  rcases List.mem_append.mp hm with z|z
  ·exact ok a b z
  ·exact h a b (List.mem_singleton.mp z).symm
 unfold bC;by_cases h:e<0
 ·rw[if_pos h];refine⟨?_,add _ λa b z=>by cases z⟩;rw[ef,cU,jk];show _++bu (cK (sh (-1-e)))=_;rw[gA];unfold aW;rw[if_pos h]
 ·rw[if_neg h]
  have one:bu [(e,e+1)]=[e]:=by
   rw[eV];unfold fN;have:(e+1-e).toNat=1:=by lia
   show run e (e+1-e).toNat=_;rw[this];rfl
  have es1:aW sh e=[e]:=by unfold aW;rw[if_neg h]
  have vS:bu (bw sh (t++[.aI e (e+1)]))=bu (bw sh t)++aW sh e/\tV (t++[.aI e (e+1)]):=by
   refine⟨?_,add _ λa b z=>by cases z;lia⟩;rw[ef,cU,jk,es1];show _++bu [(e,e+1)]=_;rw[one]
  rcases nB t with rfl|⟨t',l,rfl⟩
  ·exact vS
  ·rw[kX]at ok add vS ⊢;rw[jR]
   cases l with
   | win n=>exact vS
   | aI a b =>
    show bu (bw sh (if b=e then (t'++[aQ.aI a b]).dropLast++[.aI a (e+1)] else (t'++[aQ.aI a b])++[.aI e (e+1)]))=_/\tV (if b=e then (t'++[aQ.aI a b]).dropLast++[.aI a (e+1)] else (t'++[aQ.aI a b])++[.aI e (e+1)]);by_cases hb:b=e
    ·subst hb;have ab:=ok a b (by simp);rw[if_pos rfl,List.dropLast_concat];refine⟨?_,λp q hm=>?_⟩
     ·rw[ef,ef,cU,cU,jk,jk,es1,nC];congr 1;show bu [(a,b+1)]=bu [(a,b)]++[b];rw[eV,eV];unfold fN;show run a (b+1-a).toNat=run a (b-a).toNat++[b];have:(b+1-a).toNat=(b-a).toNat+1:=by lia
      rw[this,zF];congr 2;lia
     ·rcases List.mem_append.mp hm with z|z
      ·exact ok p q (qE _ z)
      ·have z':aQ.aI p q=aQ.aI a (b+1):=by simpa using z
       cases z';lia
    ·rw[if_neg hb];exact vS
theorem Ab(sh:Int->List Int)(es:List Int):bu (bw sh (aF es))=aS sh es/\tV (aF es):=by
 have z:∀ t:List aQ,tV t->bu (bw sh (es.foldl bC t))=bu (bw sh t)++aS sh es/\tV (es.foldl bC t):=by
  induction es with
  | nil=>intro t ok;exact⟨by simp[aS],ok⟩
  | cons e es ih =>
   intro t ok;obtain⟨h1,h2⟩:=Mg sh t e ok;obtain⟨h3,h4⟩:=ih _ h2;refine⟨?_,h4⟩;rw[kq,h3,h1,nC];unfold aS;rw[je]
 have q:=z [] (λa b h=>by cases h);refine⟨?_,q.2⟩;unfold aF;rw[q.1];rfl
theorem Mh(sh:Int->List Int)(it:aQ)(h:∀ a b,it=.aI a b->a<b):(qt (λn=>cK (sh n)) it).length<=(bu (qt (λn=>cK (sh n)) it)).length:=by
 cases it with
 | win n =>
  show (cK (sh n)).length<=(bu (cK (sh n))).length;rw[gA];have z:=zK (sh n) [];simpa [cK] using z
 | aI a b =>
  have ab:=h a b rfl;show 1<=(bu [(a,b)]).length;rw[eV];unfold fN;show 1<=(run a (b-a).toNat).length;rw[Kh];lia
theorem uR(sh:Int->List Int):∀ aL:List aQ,tV aL->(bw sh aL).length<=(bu (bw sh aL)).length
 | [],_=>by simp[bw]
 | it::aL,h=>by
  have e:bw sh (it::aL)=qt (λn=>cK (sh n)) it++bw sh aL:=by unfold bw;rw[je]
  rw[e,cU,cP,cP];have a:=Mh sh it (λa b z=>h a b (by rw[← z];simp));have b:=uR sh aL (λa b z=>h a b (mE _ z));lia
theorem Mi(sh:Int->List Int)(aL:List aQ)(h:tV aL):∀ p∈bw sh aL,p.1<=p.2:=by
 intro p hp;unfold bw at hp;obtain⟨it,hi,hm⟩:=List.mem_flatMap.mp hp
 cases it with
 | win n=>exact oU _ p hm
 | aI a b =>
  have:p=(a,b):=by simpa [qt] using hm
  subst this;have:=h a b hi;show a<=b;lia
class inductive Mj
 | mk (v:V) (it:aQ) (S:Addr) (kvs:List (eT × V)) (g:Int->Row) (_:vs=[v,.ref S]) (_:cG H v it) (_:H S=some (.dK kvs)) (_:(∀ n,it=.win n->∃ a,cI kvs (Sum.inl n)=some (.ref a)/\ck H a (g n))) (_ :
 ∀ (a:Addr) (H':Hp),ck H' a (qt g it)->aK H H'->((∃ n,it=.win n/\cI kvs (Sum.inl n)=some (.ref a))\/H a=none)->Q (.ref a) H')
theorem ID:aH ["item","views"] ["item","views"] (aA wO):=fc
theorem yg:‹(1,19,["item","views"],Mj)›:=λD=>by
 specialize fG D.Wz.F ID;obtain⟨v,it,S,kvs,g,rfl,⟨a,rfl,ha⟩,hS,hw,k⟩:=h;have hu:=gT hr;exists _,(aj (bP (aV dR (aP aX (pv 0) ay) bH (bh _)) (au (aN (ie hu (pv 1) (aP aX (pv 0) ay)))) bf) (au (aN (bM (aa (cJ (aa (aP aX (pv 0) ay) (aa (aP aX (pv 0) ay) ah))) ah)))))
 cases it with
 | win n =>
  refine⟨Y,a,K,V,cY.of ha,V,Y,cW (λ_=>?_) (λz=>absurd (by decide) z)⟩;obtain⟨b,hb,Rb⟩:=hw n rfl;have z:=jD.k (k:=Sum.inl n) hS;rw[hb]at z;exact⟨Y,Y,a,K,V,cY.of ha,rfl,S,Y,z,k b H Rb (aK.refl H) (.inl ⟨n,rfl,hb⟩)⟩
 | aI p q =>
  refine⟨Y,a,K,V,cY.of ha,V,Y,cW (λz=>absurd z (by decide)) (λ_=>?_)⟩;refine⟨Y,a,K,V,cY.of ha,rfl,Y,a,K,V,cY.of ha,rfl,lF,λt ht=>⟨m6,λl hl=>?_⟩⟩;have s1:aK H (aM H t (.tup [.int p,.int q])):=ak ht _;have s2:=s1.trans (ak hl (.lst [.ref t]));refine k l _ ⟨[t],af,.cons ?_ .nil⟩ s2 (.inr ?_)
  ·exact ak hl _ _ _ af
  ·cases e:H l with
   | none=>rfl
   | some o=>exact absurd ((s1 _ _ e).symm.trans hl) (by simp)
theorem bg.FE{H H':Hp}{S:Addr}{kvs:List (eT × V)}(hS:H S=some (.dK kvs))(k:∀ a ob,a≠S->H a=some ob->H' a=some ob):∀ {as:List Addr} {r:Row},bg H as r->bg H' as r
 | _,_,.nil=>.nil
 | _,_,.cons r t=>.cons (k _ _ (λz=>by
   have r':=r;unfold lE at r';rw[z,hS]at r'
   cases r') r) (bg.FE hS k t)
theorem ck.FE{H H':Hp}{S a:Addr}{kvs:List (eT × V)}{row:Row}(hS:H S=some (.dK kvs))(n:a≠S)(k:∀ a ob,a≠S->H a=some ob->H' a=some ob)(R:ck H a row):ck H' a row:=by
 obtain⟨as,h,p⟩:=R;exact⟨as,k _ _ n h,p.FE hS k⟩
def Kr(H:Hp)(kvs:List (eT × V))(sh:Int->List Int)(xs:List Int):Prop:=∀ x∈xs,∃ a,cI kvs (Sum.inl x)=some (.ref a)/\ck H a (cK (sh x))
class inductive So
 | mk (r L:Addr) (rows:cO) (ss:List Int) (sh:Int->List Int) (_:vs=[.ref r,.ref L]) (_:gp H r (rows.map aF)) (_:H L=some (.lst (ss.map V.int))) (_:ss.length<=1000) (_:rows.length<=1000) (_:(∀ es∈rows,es.length<=1000)) (_:gr rows) (_:Dg rows) (_:(∀ s∈ss,0<=s/\s<rows.length)) (_:m9 rows sh) (_:(∀ x:Int,0<=x->x<rows.length->(sh x).length<=10000)) (_ :
 ∀ (S:Addr) (kvs:List (eT × V)) (ks:List Int) (H':Hp),H' S=some (.dK kvs)->Kr H' kvs sh ks->Mb rows ks->(∀ s∈ss,s∈ks)->(∀ x∈ks,∀ a,cI kvs (Sum.inl x)=some (.ref a)->H a=none)->aK H H'->H S=none->Q (.ref S) H')
theorem oB:aH ["rows","sheets","views","number"] ["rows","sheets"] (aA lW):=fc
theorem jH:‹(3,20,["rows","sheets"],So)›:=λD=>by
 refine fG D.OS.F oB λdm A zn s0 H vs Q E hr h=>?_;obtain⟨r,L,rows,ss,sh,rfl,hR,hL,hsl,dO,hes,qp,yC,hin,xX,Eu,k⟩:=h;have hu:=gT hr;refine⟨_,(aj (aU (i:=2) oB.nd mY) (aj (dN PassesOwn.never rfl (cF (aC D.Wy (FA D) hr (aa (pv 0) (aa (pv 1) ah)))) (b8 (i:=3) oB.nd) (au (vC hu (pv 2) (pv 3) (aC D.ZE (vK D) hr (aa (Ly (N:=["item","stretch","views"]) (nL (sc:=aA lW) (NX:=["rows","sheets","views","number"]) (jx:=[none,none,some 2]) rfl rfl rfl nofun nofun rfl nofun rfl nofun) rfl (cF (aP bG (pv 0) (pv 3))) (λ_ _ _ _ _ _=>(b8 (i:=0) (show List.Nodup (["item","stretch","views"]:List Str) by decide +kernel))) (λ_ _ _ _ _ _=>jb) (λ_ _ _ _ _ _=>(Ou (aC D.Wz (yg D) hr (aa (pv 0) (aa (pv 2) ah))))) (λ_ _ _ _ _ _=>(b8 (i:=1) (show List.Nodup (["item","stretch","views"]:List Str) by decide +kernel))) (λ_ _ _ _ _ _=>jb) (λ_ _ _ _ _ _=>(pv 1))) ah)) rfl))) (au (aN (pv 2))))),?_⟩;intro S hS;have s1:aK H (aM H S (.dK [])):=ak hS _;refine⟨Y,Y,r,L,rows,ss,rfl,hR.same s1,s1 _ _ hL,hsl,dO,hes,qp,yC,hin,λks o H2 ho s2 tp sk kl YX=>?_⟩;have Wg:=s2 _ _ (af (H:=H) (a:=S) (o:=.dK []));have noS:o≠S:=(az af YX).symm;refine⟨o,rfl,⟨_,bI.of ho⟩,dH (K:=K) (a:=o) (xs:=ks.map V.int) (λi σ H3=>∃ (kvs:List (eT × V)) (u:Option V),σ=[some (.ref r),some (.ref L),some (.ref S),u]/\H3 S=some (.dK kvs)/\Kr H3 kvs sh (ks.take i)/\kvs.length<=i/\(∀ x a,cI kvs (Sum.inl x)=some (.ref a)->H a=none/\a≠S)/\(∀ a ob,a≠S->H2 a=some ob->H3 a=some ob)) ⟨[],none,rfl,Wg,(λy hy=>by simp at hy),fH _,(λx a e=>by cases e),λ_ _ _ e=>e⟩ ?_ ?_ ?_⟩
 ·rintro i σ H3 _ ⟨_,_,_,_,_,_,_,k3⟩;exact bI.of (k3 o _ noS ho)
 ·rintro i x σ H3 hi ⟨kvs,u,rfl,Mc,M0,hk3,hn3,k3⟩;rw[fP]at hi;obtain⟨x,ex,rfl⟩:=Option.map_eq_some_iff.mp hi;obtain⟨x0,x1⟩:=tp.EA x (pA ex);obtain⟨es,eS⟩:∃ es,rows[x.toNat]?=some es:=⟨_,qM ∅⟩;have O0:aK H H3:=λa ob e=>k3 a ob (az e hS) (s2 _ _ (s1 _ _ e));obtain⟨yf,LX,vQ⟩:=hR.same O0;obtain⟨vi,A5,hI⟩:=vQ.get' (i:=x.toNat) (b:=aF es) (by rw[fP,eS];rfl);obtain⟨b,IA,rfl,hb,rE⟩:=id hI;obtain⟨Lg,hok⟩:=Ab sh es;have shx:=xX x es x0 eS
  have ja:(bw sh (aF es)).length<=10000:=by
   have z:=uR sh (aF es) hok;rw[Lg,← shx]at z;have:=Eu x x0 x1;lia
  have part:∀ j,(bw sh ((aF es).take j)).length<=10000:=λj=>by
   have e:bw sh (aF es)=bw sh ((aF es).take j)++bw sh ((aF es).drop j):=by rw[← ef,List.take_append_drop]
   rw[e,cP]at ja;lia
  have vR:pG yf x=some (.ref b):=by
   have z:=dc A5;rw[show ((x.toNat:Nat):Int)=x by lia]at z;exact z
  refine⟨Y,Y,r,K,V,bI.of LX,vR,b,rfl,⟨_,bI.of hb⟩,λacc cT=>Fb (K:=K) (a:=b) (xs:=IA) (λj σ H5=>∃ (u v:Option V) (as:List Addr),σ=[u,v,some (.ref S)]/\H5 acc=some (.lst (as.map V.ref))/\bg H5 as (bw sh ((aF es).take j))/\aK H3 H5) ⟨none,none,[],rfl,af,.nil,ak cT _⟩ (λj σ H5 _ ⟨K,K,s5⟩=>bI.of (s5 _ _ hb)) ?_ ?_⟩
  ·rintro j v σ H5 hj ⟨u,u2,as,rfl,h5,p5,s5⟩;obtain⟨it,ei,hiv⟩:=rE.get hj;have st:bw sh ((aF es).take (j+1))=bw sh ((aF es).take j)++qt (λn=>cK (sh n)) it:=by rw[take_snoc ei,ef,jk]
   refine VY ?_;refine jA ?_;refine⟨Y,Y,v,it,S,kvs,(λn=>cK (sh n)),rfl,hiv.same s5,s5 _ _ Mc,λn hn=>?_,λa2 H6 R6 s6 hor=>?_⟩
   ·subst hn
    obtain⟨a,ha,Ra⟩:=M0 n (tp.dn i x ex n ⟨x0,es,eS,by
     rw[← iF];unfold eN;rw[List.mem_filterMap]
     exact⟨.win n,pA ei,rfl⟩⟩)
    exact⟨a,ha,Ra.same s5⟩
   obtain⟨O5,h6a,p6⟩:=id R6
   have na2:a2≠acc:=by
    rcases hor with ⟨n,hn,hv⟩|hn
    ·subst hn
     obtain⟨a,ha,as0,h0',_⟩:=M0 n (tp.dn i x ex n ⟨x0,es,eS,by
      rw[← iF];unfold eN;rw[List.mem_filterMap]
      exact⟨.win n,pA ei,rfl⟩⟩)
     rw[hv]at ha;cases ha;exact az h0' cT
    ·exact (az h5 hn).symm
   have h6:=s6 _ _ h5;have pl:=part (j+1);rw[st,cP]at pl;have al:=p5.len;have al2:=p6.len;refine⟨a2,rfl,⟨_,bI.of h6a⟩,Ic (K:=K) (a:=a2) (acc:=acc) (g:=tM 1) (tt:=Of) (te:=Vi 1) (xs:=O5.map V.ref) (λl σ H7=>∃ v2:Option V,σ=[some v,v2,some (.ref S)]/\H7 acc=some (.lst ((as++O5.take l).map V.ref))/\bg H7 (as++O5.take l) (bw sh ((aF es).take j)++(qt (λn=>cK (sh n)) it).take l)/\cB acc H6 H7/\aK H3 H7) ?_ ?_ ?_ ?_⟩
   ·exact⟨u2,rfl,(by simpa using h6),(by simpa using p5.same s6),(λ_ _ e _=>e),s5.trans s6⟩
   ·rintro l σ H7 _ ⟨_,_,_,_,K7,_⟩;exact bI.of (K7 a2 _ h6a na2)
   ·rintro l y σ H7 hl ⟨v2,rfl,h7,p7,K7,s7⟩;rw[fP]at hl;obtain⟨t,et,rfl⟩:=Option.map_eq_some_iff.mp hl;obtain⟨pr,epr,hpr⟩:=p6.get et
    have ll:l<O5.length:=by
     rcases Nat.lt_or_ge l O5.length with q|q
     ·exact q
     ·rw[List.getElem?_eq_none q]at et;cases et
    have aaz:lE H7 t pr:=K7 t _ hpr (λz=>by
     have q:H6 acc=some (.tup [.int pr.1,.int pr.2]):=by rw[← z];exact hpr
     rw[h6]at q
     cases q)
    have K8:cB acc H7 (aM H7 acc (.lst ((as++O5.take l).map V.ref++[.ref t]))):=aG acc _ _;refine VY ?_;refine jA ?_;refine⟨Y,_,h7,?_,Y,?_,?_,?_,bS cT s7 K8⟩
    ·rw[cz,cP,gB];exact aR ∅
    ·rw[af,take_snoc et,← nC,gy (l₁:=as++O5.take l)];rfl
    ·rw[take_snoc et,take_snoc epr,← nC,← nC]
     exact bg.snoc (p7.keep h7 K8) (K8 t _ aaz (λz=>by
      have q:H7 acc=some (.tup [.int pr.1,.int pr.2]):=by rw[← z];exact aaz
      rw[h7]at q
      cases q))
    ·exact λa ob e n=>K8 a ob (K7 a ob e n) n
   ·rintro σ H7 ⟨v2,rfl,h7,p7,K7,s7⟩;rw[cz,gQ]at h7 p7;rw[al2,gQ]at p7;exact⟨K,rfl,h7,(by rw[st];exact p7),s7⟩
  ·rintro σ H5 ⟨u,u2,as,rfl,h5,p5,s5⟩;rw[rE.len,gQ]at p5
   have kvl:i<ks.length:=by
    rcases Nat.lt_or_ge i ks.length with q|q
    ·exact q
    ·rw[List.getElem?_eq_none q]at ex;cases ex
   refine⟨acc,Y,⟨as,h5,p5⟩,Q,λq H6 R6 s6 hq=>?_⟩;have WU:=s6 _ _ (s5 _ _ Mc);have nqS:q≠S:=(az (s5 _ _ Mc) hq).symm;have er:bZ (bw sh (aF es))=cK (sh x):=by rw[zD _ (Mi sh _ hok),Lg,shx]
   rw[er]at R6;have k7:∀ a ob,a≠S->H6 a=some ob->aM H6 S (.dK (eK kvs (Sum.inl x) (.ref q))) a=some ob:=λa ob n e=>by rw[aJ n];exact e
   refine⟨Y,Y,S,Y,Dc.k (k:=Sum.inl x) WU (aR ∅),?_⟩;refine⟨eK kvs (Sum.inl x) (.ref q),Y,af,λy hy=>?_,?_,λy a e=>?_,λa ob n e=>k7 a ob n (s6 _ _ (s5 _ _ (k3 a ob n e)))⟩
   ·rw[kJ];by_cases c:y=x
    ·rw[if_pos (by rw[c]),c];exact⟨q,rfl,R6.FE WU nqS k7⟩
    ·rw[if_neg (λz=>c (Sum.inl.inj z))];rw[take_snoc ex]at hy;rcases List.mem_append.mp hy with z|z
     ·obtain⟨a,ha,Ra⟩:=M0 y z;exact⟨a,ha,((Ra.same s5).same s6).FE WU (hn3 y a ha).2 k7⟩
     ·exact absurd (by simpa using z) c
   ·have:=gY kvs (Sum.inl x) (V.ref q);lia
   ·rw[kJ]at e;by_cases c:y=x
    ·rw[if_pos (by rw[c])]at e;cases e;refine⟨?_,nqS⟩
     cases z:H q with
     | none=>rfl
     | some ob=>exact absurd ((s5 _ _ (O0 _ _ z)).symm.trans hq) (by simp)
    ·rw[if_neg (λz=>c (Sum.inl.inj z))]at e;exact hn3 y a e
 ·rintro σ H3 ⟨kvs,u,rfl,Mc,M0,hk3,hn3,k3⟩;rw[cz,gQ]at M0;exact⟨Y,k S kvs ks H3 Mc M0 tp sk (λx _ a e=>(hn3 x a e).1) (λa ob e=>k3 a ob (az e hS) (s2 _ _ (s1 _ _ e))) hS⟩
class inductive Sq
 | mk (r:Addr) (rows:cO) (s:Int) (sh:Int->List Int) (_:vs=[.ref r,.int s]) (_:gp H r (rows.map aF)) (_:rows.length<=1000) (_:(∀ es∈rows,es.length<=1000)) (_:gr rows) (_:Dg rows) (_:0<=s) (_:s<rows.length) (_:m9 rows sh) (_:(∀ x:Int,0<=x->x<rows.length->(sh x).length<=10000)) (_ :
 ∀ (o:Addr) (H':Hp),ck H' o (cK (sh s))->aK H H'->H o=none->Q (.ref o) H')
theorem Ss:aH ["rows","sheet"] ["rows","sheet"] (aA Hy):=fc
theorem FF:‹(4,21,["rows","sheet"],Sq)›:=λD=>by
 refine fG D.OT.F Ss λdm A zn s0 H vs Q E hr h=>?_;obtain⟨r,rows,s,sh,rfl,hR,dO,hes,qp,yC,h0,h1,xX,Eu,k⟩:=h;have hu:=gT hr;exists _,(au (aN (ie hu (aC D.OS (jH D) hr (aa (pv 0) (aa (bM (aa (pv 1) ah)) ah))) (pv 1))));refine⟨Y,Y,m6,λL hL=>?_⟩;have s1:aK H (aM H L (.lst [.int s])):=ak hL _;refine⟨r,L,rows,[s],sh,rfl,hR.same s1,af,(by simp),dO,hes,qp,yC,(λx hx=>by rw[List.mem_singleton.mp hx];exact⟨h0,h1⟩),xX,Eu,λS kvs ks H' hS hv tp sk hn s' _=>?_⟩;have sk:=sk s (by simp);obtain⟨a,ha,Ra⟩:=hv s sk;have z:=jD.k (k:=Sum.inl s) hS;rw[ha]at z;exact⟨Y,S,Y,z,k a H' Ra (s1.trans s') (aY s1 (hn s sk a ha))⟩
def WX:aQ->aQ->Bool
 | .aI _ b,.aI c _=>decide (b=c)
 | _,_=>false
class inductive WY
 | mk (x y:V) (i j:aQ) (_:vs=[x,y]) (_:cG H x i) (_:cG H y j) (_:Q (.bl (WX i j)) H)
theorem Ml:aH ["one","other"] ["one","other"] (aA zx):=fc
theorem IE:‹(1,22,["one","other"],WY)›:=λD=>by
 specialize fG D.ZM.F Ml;obtain⟨x,y,i,j,rfl,⟨a,rfl,ha⟩,⟨b,rfl,hb⟩,k⟩:=h;exists _,(au (aN (pC (lT dR (aP aX (pv 0) ay) bH (bh _)) (pC (lT dR (aP aX (pv 1) ay) bH (bh _)) (qS (lT dR (aP aX (pv 0) ay) (aP aX (pv 1) ay) (bh _)))))))
 cases i with
 | win n=>exact⟨Y,a,K,V,cY.of ha,V,Y,cW (λz=>absurd z (by decide)) (λ_=>k)⟩
 | aI p q =>
  refine⟨Y,a,K,V,cY.of ha,V,Y,cW (λ_=>?_) (λz=>absurd (by decide) z)⟩
  cases j with
  | win n=>exact⟨Y,b,K,V,cY.of hb,V,Y,cW (λz=>absurd z (by decide)) (λ_=>k)⟩
  | aI u v =>
   refine⟨Y,b,K,V,cY.of hb,V,Y,cW (λ_=>?_) (λz=>absurd (by decide) z)⟩;exists Y,a,K,V,cY.of ha,rfl,Y,b,K,V,cY.of hb,V
   have e:decide (V.int q=V.int u)=decide (q=u):=by
    by_cases c:q=u
    ·rw[c];simp
    ·have c2:¬ V.int q=V.int u:=λz=>c (V.int.inj z);rw[decide_eq_false c,decide_eq_false c2]
   rw[e];exact k
def bV(t:List aQ)(it:aQ):List aQ :=
 match t.getLast?,it with
 | some (.aI a b),.aI c d=>if b=c then t.dropLast++[.aI a d] else t++[it]
 | _,_=>t++[it]
def IF(aL:List aQ):List aQ:=aL.foldl bV []
theorem IG(aL:List aQ):∀ t:List aQ,(aL.foldl bV t).length<=t.length+aL.length:=by
 induction aL with
 | nil=>intro t;simp
 | cons e aL ih =>
  intro t;rw[kq];have z:=ih (bV t e)
  have z2:(bV t e).length<=t.length+1:=by
   unfold bV;split
   ·split
    ·rw[cP,List.length_dropLast,qD];lia
    ·simp
   ·simp
  rw[lR];lia
class inductive Dz
 | mk (r:Addr) (aL:List aQ) (_:vs=[.ref r]) (_:bz H (.ref r) aL) (_:aL.length<=1000000) (_ :
 ∀ (o:Addr) (H':Hp),bz H' (.ref o) (IF aL)->aK H H'->H o=none->Q (.ref o) H')
theorem oE:aH ["items","told","item"] ["items"] (aA pJ):=fc
theorem gv:‹(2,23,["items"],Dz)›:=λD=>by
 specialize fG D.Iv.F oE;obtain⟨r,aL,rfl,⟨a,IA,e,jP,rE⟩,dO,k⟩:=h;cases e;refine⟨_,(aj (aU (i:=1) oE.nd (bM ah)) (aj (dN PassesOwn.never rfl (cF (pv 0)) (b8 (i:=2) oE.nd) (au (bP (PW.pt (qR (ku (pv 1) (λ_=>rfl)) (nG (mF (aC D.ZM (IE D) hr (aa (aP bG (pv 1) (gG eG ay)) (aa (pv 2) ah))))))) (au (mH (cJ (aa bH (aa (aP aX (aP bG (pv 1) (gG eG ay)) ay) (aa (aP aX (pv 2) ay) ah)))) (pD (pv 1) (gG eG ay) jy))) (au (aT (dX qC jX jY bU (pv 1) (aa (pv 2) ah))))))) (au (aN (pv 1))))),?_⟩;refine⟨iG,λq hq=>?_⟩;have s0:aK H (aM H q (.lst [])):=ak hq _;refine⟨Y,r,rfl,⟨_,bI.of (s0 _ _ jP)⟩,dH (K:=K) (a:=r) (xs:=IA) (λi σ H2=>∃ (vs:List V) (u:Option V),σ=[some (.ref r),some (.ref q),u]/\H2 q=some (.lst vs)/\cu (cG H2) vs ((aL.take i).foldl bV [])/\aK H H2) ⟨[],none,rfl,af,.nil,s0⟩ (by rintro i σ H2 _ ⟨_,_,_,_,_,s⟩;exact bI.of (s _ _ jP)) ?_ ?_⟩
 ·rintro i x σ H2 hi ⟨vs,u,rfl,eL,hb,s⟩;obtain⟨it,ei,hiv⟩:=rE.get hi;have hx2:=hiv.same s;have step:(aL.take (i+1)).foldl bV []=bV ((aL.take i).foldl bV []) it:=by rw[take_snoc ei,List.foldl_append];rfl
  have bl:vs.length<sizeLine:=by
   have z:=hb.len;have z2:=IG (aL.take i) [];rw[gB,qQ]at z2;exact aR ∅
  have app:bV ((aL.take i).foldl bV []) it=(aL.take i).foldl bV []++[it]->∃ (De:List V) (u':Option V),[some (V.ref r),some (.ref q),some x]=[some (.ref r),some (.ref q),u']/\(aM H2 q (.lst (vs++[x]))) q=some (.lst De)/\cu (cG (aM H2 q (.lst (vs++[x])))) De ((aL.take (i+1)).foldl bV [])/\aK H (aM H2 q (.lst (vs++[x]))):=λe=>by
   refine⟨P,rfl,af,?_,bS hq s (aG q _ _)⟩;rw[step,e];exact cu.snoc (hb.mono λv i h=>h.keep eL (aG q _ _)) (hx2.keep eL (aG q _ _))
  rcases nB ((aL.take i).foldl bV []) with hn|⟨t0,l0,hn⟩
  ·have hvs:vs=[]:=by
    rw[hn]at hb;exact List.eq_nil_of_length_eq_zero hb.len
   subst hvs;refine⟨Y,false,.inl ⟨_,bI.of eL,rfl⟩,gh (gh ?_)⟩;refine⟨Y,.inl ⟨rfl,_,bI.of eL⟩,Y,q,Z,eL,bl,app ?_⟩;rw[hn];rfl
  ·rw[kX]at hn;have hb':=hb;rw[hn]at hb';obtain⟨us,v0,rfl,hb0,hv0⟩:=hb'.split;obtain⟨a0,rfl,MZ⟩:=id hv0;refine⟨Y,true,.inl ⟨_,bI.of eL,by simp⟩,jA ?_⟩;exists Y,Y,q,K,V,bI.of eL,fT _ _,Y,P,l0,it,rfl,hv0,hx2,Y
   cases l0 with
   | win n =>
    refine gh ?_;refine⟨Y,.inl ⟨rfl,_,bI.of eL⟩,Y,q,Z,eL,bl,app ?_⟩;rw[hn];unfold bV;rw[jR]
   | aI p1 p2 =>
    cases it with
    | win n =>
     refine gh ?_;refine⟨Y,.inl ⟨rfl,_,bI.of eL⟩,Y,q,Z,eL,bl,app ?_⟩;rw[hn];unfold bV;rw[jR]
    | aI c d =>
     refine cW (λz=>?_) (λz=>?_)
     ·have e2:p2=c:=of_decide_eq_true z;obtain⟨ax,rfl,hax⟩:=id hx2;refine⟨Y,Y,q,K,V,bI.of eL,fT _ _,a0,K,V,cY.of MZ,rfl,Y,ax,K,V,cY.of hax,rfl,Wr,λt ht=>?_⟩;refine⟨Y,Y,q,P,us.length,V,ak ht _ _ _ eL,(by rw[cP];exact EW _),?_⟩;rw[zH];refine⟨P,rfl,af,?_,bS hq (s.trans (ak ht _)) (aG q _ _)⟩
      have e3:(aL.take (i+1)).foldl bV []=t0++[.aI p1 d]:=by
       rw[step,hn];unfold bV;rw[jR,List.dropLast_concat];show (if p2=c then t0++[aQ.aI p1 d] else _)=_;rw[if_pos e2]
      rw[e3];exact cu.new (it:=.aI p1 d) eL hb0 ht _
     ·have e2:¬ p2=c:=λw=>z (decide_eq_true w);refine⟨Y,.inl ⟨rfl,_,bI.of eL⟩,Y,q,Z,eL,bl,app ?_⟩;rw[hn];unfold bV;rw[jR];show (if p2=c then _ else t0++[aQ.aI p1 p2]++[aQ.aI c d])=_;rw[if_neg e2]
 ·rintro σ H2 ⟨vs,u,rfl,eL,hb,s⟩;rw[rE.len,gQ]at hb;exact⟨Y,k q H2 ⟨q,vs,rfl,eL,hb⟩ s hq⟩
def cD(r:Row):List aQ:=r.map λp=>.aI p.1 p.2
class inductive Su
 | mk (r:Addr) (row:Row) (_:vs=[.ref r]) (_:ck H r row) (_:row.length<=100000) (_ :
 ∀ (o:Addr) (H':Hp),bz H' (.ref o) (cD (bZ row))->aK H H'->H o=none->Q (.ref o) H')
theorem Sv:aH ["row"] ["row"] (aA C0):=fc
theorem kQ:‹(2,24,["row"],Su)›:=λD=>by
 specialize fG D.Dq.F Sv;obtain⟨r,row,rfl,R,dO,k⟩:=h;refine⟨_,(au (aN (gZ (N:=["start","stop"]) (nL (sc:=aA C0) (NX:=["row"]) (jx:=[none,none]) rfl rfl rfl nofun nofun rfl nofun rfl nofun) rfl (cF (aC D.ZE (vK D) hr (aa (pv 0) ah))) (λ_ _ _ _ _ _=>(yV (n:=2) rfl (bT (b8 (i:=0) (show List.Nodup (["start","stop"]:List Str) by decide +kernel)) (bT (b8 (i:=1) (show List.Nodup (["start","stop"]:List Str) by decide +kernel)) gC)))) (λ_ _ _ _ _ _=>jb) (λ_ _ _ _ _ _=>(cJ (aa bH (aa (pv 0) (aa (pv 1) ah)))))))),?_⟩;refine⟨Y,r,row,rfl,R,Q,λq H1 R1 s1 hq=>?_⟩;obtain⟨as,h1,p1⟩:=id R1;have pl:=jq row;refine⟨q,rfl,⟨_,bI.of h1⟩,λacc cT=>gE (K:=K) (a:=q) (xs:=as.map V.ref) (λi σ H2=>∃ (u v:Option V) (vs:List V),σ=[u,v]/\H2 acc=some (.lst vs)/\cu (cG H2) vs (cD ((bZ row).take i))/\aK H1 H2) ⟨none,none,[],rfl,af,.nil,ak cT _⟩ (by rintro i σ H2 _ ⟨_,_,_,_,_,_,s⟩;exact bI.of (s _ _ h1)) ?_ ?_⟩
 ·rintro i x σ H2 hi ⟨u,v,vs,rfl,ha,t2,s⟩;rw[fP]at hi;obtain⟨a,ea,rfl⟩:=Option.map_eq_some_iff.mp hi;obtain⟨⟨st,en⟩,ep,hpa⟩:=p1.get ea;have bl:=t2.len;unfold cD at bl;rw[cz,gB]at bl;refine⟨a,Y,cY.of (s _ _ hpa),rfl,P,rfl,Z,yes (jA ?_)⟩;refine⟨Y,Y,Wr,λt ht=>?_⟩;refine⟨vs,ak ht _ _ _ ha,aR ∅,K,rfl,af,?_,bS cT (s.trans (ak ht _)) (aG acc _ _)⟩
  have e:cD ((bZ row).take (i+1))=cD ((bZ row).take i)++[.aI st en]:=by
   rw[take_snoc ep];unfold cD;rw[gy];rfl
  rw[e];exact cu.new (it:=.aI st en) ha t2 ht _
 ·rintro σ H2 ⟨u,v,vs,rfl,ha,t2,s⟩;rw[cz,p1.len,gQ]at t2;refine k acc H2 ⟨acc,vs,rfl,ha,t2⟩ (s1.trans s) ?_
  cases e:H acc with
  | none=>rfl
  | some o=>exact absurd ((s1 _ _ e).symm.trans cT) (by simp)
def fk:aQ->List Int
 | .win n=>[-1-n]
 | .aI a b=>run a (b-a).toNat
def cZ(aL:List aQ):List Int:=aL.flatMap fk
def lO:aQ->Prop
 | .win n=>0<=n
 | .aI a b=>0<=a/\a<b
def fm(aL:List aQ):Prop:=∀ it∈aL,lO it
theorem dh(a b:List aQ):cZ (a++b)=cZ a++cZ b:=by unfold cZ;rw[List.flatMap_append]
theorem iX(a:aQ):cZ [a]=fk a:=by simp[cZ]
theorem fm.append{a b:List aQ}(h:fm a)(g:fm b):fm (a++b):=λit hm=>(List.mem_append.mp hm).elim (h it) (g it)
theorem fm.one{a:aQ}(h:lO a):fm [a]:=λit hm=>by rw[List.mem_singleton.mp hm];exact h
theorem O6(t:List aQ){n:Int}(h:0<=n):bC t (-1-n)=t++[.win n]:=by
 unfold bC;rw[if_pos ∅];congr 3;lia
theorem Mm(t:List aQ)(p s:Int)(h:0<=s):bC (t++[.aI p s]) s=t++[.aI p (s+1)]:=by
 unfold bC;rw[if_neg ∅,jR];show (if s=s then (t++[aQ.aI p s]).dropLast++[.aI p (s+1)] else _)=_;rw[if_pos rfl,List.dropLast_concat]
theorem Cm(t:List aQ)(p:Int):∀ (n:Nat) (s:Int),0<=s->(run s n).foldl bC (t++[.aI p s])=t++[.aI p (s+n)]
 | 0,s,_=>by simp[run]
 | n+1,s,h=>by
  rw[run,kq,Mm t p s h,Cm t p n (s+1) ∅];congr 3;lia
theorem II(t:List aQ)(it:aQ)(h:lO it):bV t it=(fk it).foldl bC t:=by
 cases it with
 | win n =>
  show bV t (.win n)=bC t (-1-n);rw[O6 t h];unfold bV
  cases t.getLast? with
  | none=>rfl
  | some l=>cases l <;> rfl
 | aI a b =>
  obtain⟨a0,ab⟩:=h;have e:(b-a).toNat=(b-(a+1)).toNat+1:=by lia
  show bV t (.aI a b)=(run a (b-a).toNat).foldl bC t;rw[e,run,kq]
  have jN:∀ (u:List aQ) (p:Int),(run (a+1) (b-(a+1)).toNat).foldl bC (u++[.aI p (a+1)])=u++[.aI p b]:=λu p=>by
   rw[Cm u p _ _ ∅];congr 3;lia
  unfold bV bC;rw[if_neg ∅]
  cases t.getLast? with
  | none=>exact (jN t a).symm
  | some l =>
   cases l with
   | win n=>exact (jN t a).symm
   | aI p q =>
    show (if q=a then t.dropLast++[aQ.aI p b] else t++[aQ.aI a b])=List.foldl bC (if q=a then t.dropLast++[aQ.aI p (a+1)] else t++[aQ.aI a (a+1)]) _;by_cases c:q=a
    ·rw[if_pos c,if_pos c,jN]
    ·rw[if_neg c,if_neg c,jN]
theorem jt(aL:List aQ)(h:fm aL):IF aL=aF (cZ aL):=by
 unfold IF aF cZ;rw[mW]
 have z:∀ (aL:List aQ) (t:List aQ),fm aL->aL.foldl bV t=aL.foldl (λc a=>(fk a).foldl bC c) t:=by
  intro aL
  induction aL with
  | nil=>intro t _;rfl
  | cons it aL ih =>
   intro t h;rw[kq,kq,II t it (h it (by simp))];exact ih _ λi hi=>h i (mE _ hi)
 exact z aL [] h
theorem Mn(t:List aQ)(e:Int)(h:fm t):cZ (bC t e)=cZ t++[e]/\fm (bC t e):=by
 unfold bC;by_cases c:e<0
 ·rw[if_pos c,dh,iX];refine⟨?_,h.append (fm.one (by show 0<=-1-e;lia))⟩;show cZ t++[-1-(-1-e)]=_;rw[show -1-(-1-e)=e by lia]
 ·rw[if_neg c]
  have pl:cZ (t++[.aI e (e+1)])=cZ t++[e]/\fm (t++[.aI e (e+1)]):=by
   refine⟨?_,h.append (fm.one ⟨Q,Q⟩)⟩;rw[dh,iX];show _++run e (e+1-e).toNat=_;rw[show (e+1-e).toNat=1 by lia];rfl
  rcases nB t with rfl|⟨t',l,rfl⟩
  ·exact pl
  ·rw[kX]at h pl ⊢;rw[jR]
   cases l with
   | win n=>exact pl
   | aI a b =>
    show cZ (if b=e then (t'++[aQ.aI a b]).dropLast++[.aI a (e+1)] else (t'++[aQ.aI a b])++[.aI e (e+1)])=_/\fm (if b=e then (t'++[aQ.aI a b]).dropLast++[.aI a (e+1)] else (t'++[aQ.aI a b])++[.aI e (e+1)]);by_cases hb:b=e
    ·subst hb;obtain⟨a0,ab⟩:0<=a/\a<b:=h (.aI a b) (by simp);rw[if_pos rfl,List.dropLast_concat];refine⟨?_,fm.append (λi hi=>h i (qE _ hi)) (fm.one ⟨a0,Q⟩)⟩;rw[dh,dh,iX,iX,nC];congr 1;show run a (b+1-a).toNat=run a (b-a).toNat++[b];rw[show (b+1-a).toNat=(b-a).toNat+1 by lia,zF];congr 2;lia
    ·rw[if_neg hb];exact pl
theorem j4(es:List Int):cZ (aF es)=es/\fm (aF es):=by
 have z:∀ (es:List Int) (t:List aQ),fm t->cZ (es.foldl bC t)=cZ t++es/\fm (es.foldl bC t):=by
  intro es
  induction es with
  | nil=>intro t h;exact⟨by simp,h⟩
  | cons e es ih =>
   intro t h;obtain⟨h1,h2⟩:=Mn t e h;obtain⟨h3,h4⟩:=ih _ h2;exact⟨by rw[kq,h3,h1,nC];rfl,h4⟩
 obtain⟨h1,h2⟩:=z es [] (λi hi=>by cases hi);exact⟨by unfold aF;rw[h1];rfl,h2⟩
theorem ng(r:Row):cZ (cD r)=bu r:=by
 unfold cZ cD bu;rw[List.flatMap_map];rfl
theorem rL{r:Row}(h:jF r):fm (cD r):=by
 intro it hm;unfold cD at hm;obtain⟨p,hp,rfl⟩:=List.mem_map.mp hm;exact h p hp
theorem Mp{ns:List Int}(h:∀ x∈ns,0<=x):cD (cK ns)=aF ns:=by
 have z:∀ (ns:List Int) (t:Row),(∀ x∈ns,0<=x)->cD (ns.foldl (λt n=>iQ t n (n+1)) t)=ns.foldl bC (cD t):=by
  intro ns
  induction ns with
  | nil=>intro t _;rfl
  | cons n ns ih =>
   intro t h;rw[kq,kq,ih _ λx hx=>h x (mE _ hx)];congr 1;have n0:=h n (by simp);unfold iQ bC;rw[if_neg ∅];rcases nB t with rfl|⟨t',l,rfl⟩
   ·rfl
   ·rw[kX,jR];have e:(cD (t'++[l])).getLast?=some (.aI l.1 l.2):=by unfold cD;rw[gy];exact jR
    rw[e];show cD (if l.2=n then (t'++[l]).dropLast++[(l.1,n+1)] else t'++[l]++[(n,n+1)])=if l.2=n then (cD (t'++[l])).dropLast++[.aI l.1 (n+1)] else cD (t'++[l])++[.aI n (n+1)];by_cases c:l.2=n
    ·rw[if_pos c,if_pos c,List.dropLast_concat];unfold cD;rw[gy,gy];simp
    ·rw[if_neg c,if_neg c];unfold cD;rw[gy];rfl
 exact z ns [] h
abbrev nE:=aQ × Row × Int × Int
def cN(sh:Int->List Int)(it:aQ):Row:=qt (λn=>cK (sh n)) it
def bX(sh:Int->List Int):Int->List aQ->List nE
 | _,[]=>[]
 | f,it::r=>(it,cN sh it,f,f+ja (cN sh it))::bX sh (f+ja (cN sh it)) r
theorem vU(sh:Int->List Int)(b:List aQ):∀ (a:List aQ) (f:Int),bX sh f (a++b)=bX sh f a++bX sh (f+ja (bw sh a)) b
 | [],f=>by simp[bX,bw,ja]
 | it::a,f=>by
  rw[List.cons_append,bX,bX,vU sh b a,List.cons_append];have e:bw sh (it::a)=cN sh it++bw sh a:=by unfold bw;rw[je];rfl
  rw[e,zE,Int.add_assoc]
theorem Cn(sh:Int->List Int):∀ (a:List aQ) (f:Int),(bX sh f a).length=a.length
 | [],_=>rfl
 | _::a,f=>by rw[bX,lR,lR,Cn sh a]
def nh(N:Addr->Prop)(H:Hp)(v:V)(d:nE):Prop:=∃ (a ra:Addr) (x:V),v=.ref a/\H a=some (.tup [x,.ref ra,.int d.2.2.1,.int d.2.2.2])/\cG H x d.1/\ck H ra d.2.1/\N ra
theorem nh.same{N:Addr->Prop}{H H':Hp}{v:V}{d:nE}(s:aK H H'):nh N H v d->nh N H' v d:=λ⟨a,ra,x,e,h,i,r,n⟩=>⟨a,ra,x,e,s _ _ h,i.same s,r.same s,n⟩
theorem nh.keep{N:Addr->Prop}{H H':Hp}{v:V}{d:nE}{q:Addr}{xs:List V}(hq:H q=some (.lst xs))(nq:∀ a,N a->a≠q)(k:cB q H H'):nh N H v d->nh N H' v d:=λ⟨a,ra,x,e,h,i,r,n⟩=>⟨a,ra,x,e,k a _ h (by
 intro z;rw[z,hq]at h
 cases h),i.keep hq k,r.keep hq (nq ra n) k,n⟩
def xr(H:Hp)(kvs:List (eT × V))(sh:Int->List Int)(aL:List aQ):Prop:=∀ n,aQ.win n∈aL->∃ a,cI kvs (Sum.inl n)=some (.ref a)/\ck H a (cK (sh n))
theorem xr.same{H H':Hp}{kvs:List (eT × V)}{sh:Int->List Int}{aL:List aQ}(s:aK H H')(h:xr H kvs sh aL):xr H' kvs sh aL:=λn hn=>by
 obtain⟨a,e,r⟩:=h n hn;exact⟨a,e,r.same s⟩
def aD(p:Int)(d:nE):List aQ:=if d.2.2.2<=p then [d.1] else if p<=d.2.2.1 then [] else cD (bZ (kW 0 (p-d.2.2.1) 0 d.2.1))
def bD(p:Int)(d:nE):List aQ:=if d.2.2.2<=p then [] else if p<=d.2.2.1 then [d.1] else cD (bZ (kW (p-d.2.2.1) (d.2.2.2-d.2.2.1) 0 d.2.1))
def aE(sh:Int->List Int)(p:Int):Int->List Int->List Int
 | _,[]=>[]
 | f,e::r=>(if f+(aW sh e).length<=p then [e] else if p<=f then [] else (aW sh e).take (p-f).toNat)++aE sh p (f+(aW sh e).length) r
def bE(sh:Int->List Int)(p:Int):Int->List Int->List Int
 | _,[]=>[]
 | f,e::r=>(if f+(aW sh e).length<=p then [] else if p<=f then [e] else (aW sh e).drop (p-f).toNat)++bE sh p (f+(aW sh e).length) r
theorem bQ(sh:Int->List Int)(e:Int)(r:List Int):aS sh (e::r)=aW sh e++aS sh r:=by unfold aS;rw[je]
theorem jI(sh:Int->List Int)(a b:List Int):aS sh (a++b)=aS sh a++aS sh b:=by unfold aS;rw[List.flatMap_append]
theorem xu(sh:Int->List Int)(p:Int)(y:List Int):∀ (x:List Int) (f:Int),aE sh p f (x++y)=aE sh p f x++aE sh p (f+(aS sh x).length) y
 | [],f=>by simp[aE,aS]
 | e::x,f=>by
  rw[List.cons_append,aE,aE,xu sh p y x,nC,bQ,cP,Int.add_assoc]
  push_cast
  rfl
theorem xx(sh:Int->List Int)(p:Int)(y:List Int):∀ (x:List Int) (f:Int),bE sh p f (x++y)=bE sh p f x++bE sh p (f+(aS sh x).length) y
 | [],f=>by simp[bE,aS]
 | e::x,f=>by
  rw[List.cons_append,bE,bE,xx sh p y x,nC,bQ,cP,Int.add_assoc]
  push_cast
  rfl
theorem sO(sh:Int->List Int){e:Int}(h:0<=e):aW sh e=[e]:=by unfold aW;rw[if_neg ∅]
theorem mw(sh:Int->List Int):∀ (n:Nat) (a:Int),0<=a->aS sh (run a n)=run a n
 | 0,_,_=>rfl
 | n+1,a,h=>by rw[run,bQ,sO sh h,mw sh n (a+1) ∅];rfl
theorem O7(sh:Int->List Int)(p:Int):∀ (n:Nat) (a f:Int),0<=a->aE sh p f (run a n)=(run a n).take (p-f).toNat
 | 0,_,_,_=>by simp[run,aE]
 | n+1,a,f,h=>by
  rw[run,aE,O7 sh p n (a+1) _ ∅,sO sh h];show (if f+1<=p then [a] else if p<=f then [] else _)++(run (a+1) n).take (p-(f+1)).toNat=_;by_cases c:f+1<=p
  ·rw[if_pos c,show (p-f).toNat=(p-(f+1)).toNat+1 by lia];rfl
  ·rw[if_neg c,if_pos ∅,show (p-f).toNat=0 by lia,show (p-(f+1)).toNat=0 by lia];rfl
theorem O8(sh:Int->List Int)(p:Int):∀ (n:Nat) (a f:Int),0<=a->bE sh p f (run a n)=(run a n).drop (p-f).toNat
 | 0,_,_,_=>by simp[run,bE]
 | n+1,a,f,h=>by
  rw[run,bE,O8 sh p n (a+1) _ ∅,sO sh h];show (if f+1<=p then [] else if p<=f then [a] else _)++(run (a+1) n).drop (p-(f+1)).toNat=_;by_cases c:f+1<=p
  ·rw[if_pos c,show (p-f).toNat=(p-(f+1)).toNat+1 by lia];rfl
  ·rw[if_neg c,if_pos ∅,show (p-f).toNat=0 by lia,show (p-(f+1)).toNat=0 by lia];rfl
theorem O9(sh:Int->List Int){n:Int}(h:0<=n):aW sh (-1-n)=sh n:=by
 unfold aW;rw[if_pos ∅,show -1-(-1-n)=n by lia]
theorem vV(sh:Int->List Int)(it:aQ)(h:lO it):∀ q∈cN sh it,q.1<=q.2:=by
 cases it with
 | win n=>exact oU _
 | aI a b =>
  intro q hq;have:q=(a,b):=by simpa [cN,qt] using hq
  subst this;have:=h.2;show a<=b;lia
theorem j5(sh:Int->List Int)(it:aQ)(h:lO it):bu (cN sh it)=aS sh (fk it):=by
 cases it with
 | win n =>
  show bu (cK (sh n))=aS sh [-1-n];rw[gA,bQ,O9 sh h];simp[aS]
 | aI a b =>
  show bu [(a,b)]=aS sh (run a (b-a).toNat);rw[eV,mw sh _ _ h.1];rfl
theorem kT(sh:Int->List Int)(it:aQ)(h:lO it):ja (cN sh it)=(aS sh (fk it)).length:=by
 rw[← j5 sh it h,sG _ (vV sh it h)]
theorem aaA(sh:Int->List Int)(p f:Int)(it:aQ)(h:lO it):cZ (aD p (it,cN sh it,f,f+ja (cN sh it)))=aE sh p f (fk it):=by
 have tt:=kT sh it h
 have sp:cZ (cD (bZ (kW 0 (p-f) 0 (cN sh it))))=(aS sh (fk it)).take (p-f).toNat:=by
  rw[ng,qb _ _ _ (vV sh it h),j5 sh it h];rfl
 unfold aD;show cZ (if f+ja (cN sh it)<=p then [it] else if p<=f then [] else cD (bZ (kW 0 (p-f) 0 (cN sh it))))=_;rw[tt]
 cases it with
 | win n =>
  have e1:aS sh (fk (.win n))=aW sh (-1-n):=by show aS sh [-1-n]=_;rw[bQ];simp[aS]
  rw[e1]at sp ⊢;show _=aE sh p f [-1-n];rw[aE,aE,gK];split
  ·rfl
  ·split
   ·rfl
   ·exact sp
 | aI a b =>
  have e1:aS sh (fk (.aI a b))=run a (b-a).toNat:=mw sh _ _ h.1;rw[e1]at sp ⊢;show _=aE sh p f (run a (b-a).toNat);rw[O7 sh p _ _ _ h.1];have rl:=gD a (b-a).toNat;split
  ·rename_i c;rw[iX,uc ∅];rfl
  ·split
   ·rename_i c;rw[show (p-f).toNat=0 by lia];rfl
   ·exact sp
theorem aaB(sh:Int->List Int)(p f:Int)(it:aQ)(h:lO it):cZ (bD p (it,cN sh it,f,f+ja (cN sh it)))=bE sh p f (fk it):=by
 have tt:=kT sh it h
 have sp:cZ (cD (bZ (kW (p-f) (f+ja (cN sh it)-f) 0 (cN sh it))))=(aS sh (fk it)).drop (p-f).toNat:=by
  rw[ng,qb _ _ _ (vV sh it h),j5 sh it h,uc (by rw[tt];lia)]
 unfold bD;show cZ (if f+ja (cN sh it)<=p then [] else if p<=f then [it] else cD (bZ (kW (p-f) (f+ja (cN sh it)-f) 0 (cN sh it))))=_;have c1:(f+ja (cN sh it)<=p)=(f+(aS sh (fk it)).length<=p):=by rw[tt]
 simp only[c1]
 cases it with
 | win n =>
  have e1:aS sh (fk (.win n))=aW sh (-1-n):=by show aS sh [-1-n]=_;rw[bQ];simp[aS]
  rw[e1]at sp ⊢;show _=bE sh p f [-1-n];rw[bE,bE,gK];split
  ·rfl
  ·split
   ·rfl
   ·exact sp
 | aI a b =>
  have e1:aS sh (fk (.aI a b))=run a (b-a).toNat:=mw sh _ _ h.1;rw[e1]at sp ⊢;show _=bE sh p f (run a (b-a).toNat);rw[O8 sh p _ _ _ h.1];have rl:=gD a (b-a).toNat;split
  ·rename_i c;rw[vg ∅];rfl
  ·split
   ·rename_i c;rw[iX,show (p-f).toNat=0 by lia];rfl
   ·exact sp
theorem FG(sh:Int->List Int)(p:Int):∀ (aL:List aQ) (f:Int),fm aL->cZ ((bX sh f aL).flatMap (aD p))=aE sh p f (cZ aL)
 | [],f,_=>rfl
 | it::r,f,h=>by
  have h1:=h it (by simp);rw[bX,je,dh,aaA sh p f it h1,FG sh p r _ λi hi=>h i (mE _ hi)];have e:cZ (it::r)=fk it++cZ r:=by unfold cZ;rw[je]
  rw[e,xu,kT sh it h1]
theorem Co(sh:Int->List Int)(p:Int):∀ (aL:List aQ) (f:Int),fm aL->cZ ((bX sh f aL).flatMap (bD p))=bE sh p f (cZ aL)
 | [],f,_=>rfl
 | it::r,f,h=>by
  have h1:=h it (by simp);rw[bX,je,dh,aaB sh p f it h1,Co sh p r _ λi hi=>h i (mE _ hi)];have e:cZ (it::r)=fk it++cZ r:=by unfold cZ;rw[je]
  rw[e,xx,kT sh it h1]
def Sw(sh:Int->List Int)(aL:List aQ):Prop:=∀ n,aQ.win n∈aL->∀ x∈sh n,0<=x
theorem Sx(sh:Int->List Int)(it:aQ)(h:lO it)(g:∀ n,it=.win n->∀ x∈sh n,0<=x):lN (cN sh it):=by
 cases it with
 | win n=>exact (Ca (g n rfl)).nn
 | aI a b =>
  intro q hq;have:q=(a,b):=by simpa [cN,qt] using hq
  subst this;exact⟨h.1,by have:=h.2;show a<=b;lia⟩
theorem y9(sh:Int->List Int):∀ (aL:List aQ) (f:Int),fm aL->Sw sh aL->∀ d∈bX sh f aL,lO d.1/\lN d.2.1
 | [],_,_,_=>λd hd=>by cases hd
 | it::r,f,h,g=>by
  intro d hd;rw[bX]at hd;rcases List.mem_cons.mp hd with rfl|z
  ·exact⟨h it (by simp),Sx sh it (h it (by simp)) λn e=>g n (by rw[e];simp)⟩
  ·exact y9 sh r _ (λi hi=>h i (mE _ hi)) (λn hn=>g n (mE _ hn)) d z
theorem Ac{a b:Int}{r:Row}(h:lN r):fm (cD (bZ (kW a b 0 r))):=rL (mq (zT a b r 0 h))
theorem aaC{p:Int}{d:nE}(h:lO d.1)(g:lN d.2.1):fm (aD p d):=by
 unfold aD;split
 ·exact fm.one h
 ·split
  ·exact λi hi=>by cases hi
  ·exact Ac g
theorem aaD{p:Int}{d:nE}(h:lO d.1)(g:lN d.2.1):fm (bD p d):=by
 unfold bD;split
 ·exact λi hi=>by cases hi
 ·split
  ·exact fm.one h
  ·exact Ac g
theorem vW{g:nE->List aQ}{l:List nE}(h:∀ d∈l,fm (g d)):fm (l.flatMap g):=λit hm=>by
 obtain⟨d,hd,hm⟩:=List.mem_flatMap.mp hm;exact h d hd it hm
theorem za(r:Row):(cD r).length=r.length:=by unfold cD;rw[cz]
theorem sP(a b:Int)(r:Row):(cD (bZ (kW a b 0 r))).length<=r.length:=by
 rw[za];exact gR (jq _) (j3 a b r 0)
theorem Ad(sh:Int->List Int){g:nE->List aQ}(hg:∀ d,(g d).length<=d.2.1.length+1):∀ (aL:List aQ) (f:Int),((bX sh f aL).flatMap g).length<=(bw sh aL).length+aL.length
 | [],_=>by simp[bX]
 | it::r,f=>by
  rw[bX,je,cP];have a:=hg (it,cN sh it,f,f+ja (cN sh it));have b:=Ad sh hg r (f+ja (cN sh it));have e:bw sh (it::r)=cN sh it++bw sh r:=by unfold bw;rw[je];rfl
  rw[e,cP,lR];simp only at a;lia
theorem WZ(p:Int)(d:nE):(aD p d).length<=d.2.1.length+1:=by
 unfold aD;split
 ·simp
 ·split
  ·simp
  ·exact gR (sP _ _ _) ∅
theorem W0(p:Int)(d:nE):(bD p d).length<=d.2.1.length+1:=by
 unfold bD;split
 ·simp
 ·split
  ·simp
  ·exact gR (sP _ _ _) ∅
theorem iH{α β:Type}(g:α->List β)(l:List α)(i:Nat):((l.take i).flatMap g).length<=(l.flatMap g).length:=by
 have e:l.flatMap g=(l.take i).flatMap g++(l.drop i).flatMap g:=by rw[← List.flatMap_append,List.take_append_drop]
 rw[e,cP];lia
theorem sQ{α β:Type}(g:α->List β){l:List α}{i:Nat}{a:α}(h:l[i]?=some a):(l.take (i+1)).flatMap g=(l.take i).flatMap g++g a:=by
 rw[take_snoc h,List.flatMap_append];simp
theorem vX(sh:Int->List Int){aL:List aQ}{it:aQ}(h:it∈aL):(cN sh it).length<=(bw sh aL).length:=by
 obtain⟨a,b,rfl⟩:=List.append_of_mem h;rw[ef];have e:bw sh (it::b)=cN sh it++bw sh b:=by unfold bw;rw[je];rfl
 rw[e,cP,cP];lia
def Ks(A B:Addr)(H H':Hp):Prop:=∀ a o,H a=some o->a≠A->a≠B->H' a=some o
theorem Ks.tup{A B:Addr}{H H':Hp}{xs ys:List V}(k:Ks A B H H')(hA:H A=some (.lst xs))(hB:H B=some (.lst ys)):∀ a zs,H a=some (.tup zs)->H' a=some (.tup zs):=λa zs h=>k a _ h (λz=>by
 rw[z,hA]at h;cases h) (λz=>by
 rw[z,hB]at h
 cases h)
theorem cG.tups{H H':Hp}{v:V}{it:aQ}(t:∀ a xs,H a=some (.tup xs)->H' a=some (.tup xs)):cG H v it->cG H' v it:=λ⟨a,e,h⟩=>⟨a,e,t a _ h⟩
theorem nh.UB{N:Addr->Prop}{A B:Addr}{H H':Hp}{v:V}{d:nE}{xs ys:List V}(hA:H A=some (.lst xs))(hB:H B=some (.lst ys))(n:∀ a,N a->a≠A/\a≠B)(k:Ks A B H H'):nh N H v d->nh N H' v d:=λ⟨a,ra,x,e,h,i,⟨as,hr,hp⟩,hn⟩ =>
 ⟨a,ra,x,e,k.tup hA hB _ _ h,i.tups (k.tup hA hB),⟨as,k _ _ hr (n ra hn).1 (n ra hn).2,hp.tups (k.tup hA hB)⟩,hn⟩
theorem cu.app{α β:Type}{R:α->β->Prop}{as cs:List α}{bs ds:List β}(h:cu R as bs)(t:cu R cs ds):cu R (as++cs) (bs++ds):=by
 induction h with
 | nil=>exact t
 | cons e _ ih=>exact .cons e ih
structure lP(H1:Hp)(A B:Addr)(l1 l2:List aQ)(H2:Hp):Prop where
 a:∃ vs,H2 A=some (.lst vs)/\cu (cG H2) vs l1
 b:∃ vs,H2 B=some (.lst vs)/\cu (cG H2) vs l2
 k:Ks A B H1 H2
theorem lP.same{H1 H2 H3:Hp}{A B:Addr}{l1 l2:List aQ}(p:lP H1 A B l1 l2 H2)(s:aK H2 H3):lP H1 A B l1 l2 H3:=by
 obtain⟨⟨v1,h1,t1⟩,⟨v2,h2,t2⟩,k⟩:=p;exact⟨⟨v1,s _ _ h1,t1.mono λ_ _ h=>h.same s⟩,⟨v2,s _ _ h2,t2.mono λ_ _ h=>h.same s⟩,λa o e n m=>s _ _ (k a o e n m)⟩
theorem lP.Ku{H1 H2:Hp}{A B:Addr}{l1 l2 l3:List aQ}{v1 v3:List V}(p:lP H1 A B l1 l2 H2)(n:A≠B)(h1:H2 A=some (.lst v1))(t3:cu (cG H2) v3 l3):lP H1 A B (l1++l3) l2 (aM H2 A (.lst (v1++v3))):=by
 obtain⟨⟨v1',h1',t1⟩,⟨v2,h2,t2⟩,k⟩:=p;rw[h1]at h1';cases h1';have kp:∀ v i,cG H2 v i->cG (aM H2 A (.lst (v1++v3))) v i:=λv i h=>h.keep h1 (aG A _ _);refine⟨⟨_,af,(t1.mono kp).app (t3.mono kp)⟩,⟨v2,by rw[aJ n.symm];exact h2,t2.mono kp⟩,λa o e m1 m2=>?_⟩;rw[aJ m1];exact k a o e m1 m2
theorem lP.Kv{H1 H2:Hp}{A B:Addr}{l1 l2 l3:List aQ}{v2 v3:List V}(p:lP H1 A B l1 l2 H2)(n:A≠B)(h2:H2 B=some (.lst v2))(t3:cu (cG H2) v3 l3):lP H1 A B l1 (l2++l3) (aM H2 B (.lst (v2++v3))):=by
 obtain⟨⟨v1,h1,t1⟩,⟨v2',h2',t2⟩,k⟩:=p;rw[h2]at h2';cases h2';have kp:∀ v i,cG H2 v i->cG (aM H2 B (.lst (v2++v3))) v i:=λv i h=>h.keep h2 (aG B _ _);refine⟨⟨v1,by rw[aJ n];exact h1,t1.mono kp⟩,⟨_,af,(t2.mono kp).app (t3.mono kp)⟩,λa o e m1 m2=>?_⟩;rw[aJ m2];exact k a o e m1 m2
theorem oW{rows:cO}{sh:Int->List Int}(qp:gr rows)(yC:Dg rows)(xX:m9 rows sh):∀ x:Int,0<=x->x<rows.length->∀ y∈sh x,0<=y:=by
 obtain⟨rk,hb,hd⟩:=yC
 have key:∀ (k:Nat) (x:Int),rk x<k->0<=x->x<rows.length->∀ y∈sh x,0<=y:=by
  intro k
  induction k with
  | zero=>intro x h;lia
  | succ k ih =>
   intro x hx x0 x1 y hy;have he:rows[x.toNat]?=some rows[x.toNat]:=qM ∅;rw[xX x _ x0 he]at hy;unfold aS at hy;obtain⟨e,hm,hy⟩:=List.mem_flatMap.mp hy;unfold aW at hy;by_cases c:e<0
   ·rw[if_pos c]at hy;have nx:jO rows x (-1-e):=⟨x0,_,he,cy.mpr ⟨Q,by rw[show -1-(-1-e)=e by lia];exact hm⟩⟩;obtain⟨a,b⟩:=qp.Es nx;have:=hd _ _ nx;exact ih _ ∅ a b y hy
   ·rw[if_neg c]at hy;rw[List.mem_singleton.mp hy];lia
 exact λx=>key (rk x+1) x (Nat.lt_succ_self _)
theorem sR{rows:cO}{s n:Int}{es:List Int}(h0:0<=s)(he:rows[s.toNat]?=some es)(h:aQ.win n∈aF es):jO rows s n:=by
 exists h0,es,he;rw[← iF];unfold eN;rw[List.mem_filterMap];exact⟨.win n,h,rfl⟩
structure oF(H:Hp)(r:Addr)(rows:cO)(sh:Int->List Int):Prop where
 at_:gp H r (rows.map aF)
 len:rows.length<=1000
 ents:∀ es∈rows,es.length<=1000
 snd:gr rows
 rk:Dg rows
 Pa:m9 rows sh
 bd:∀ x:Int,0<=x->x<rows.length->(sh x).length<=10000
theorem oF.same{H H':Hp}{r:Addr}{rows:cO}{sh:Int->List Int}(s:aK H H')(h:oF H r rows sh):oF H' r rows sh:={ h with at_:=h.at_.same s }
structure aaE(H:Hp)(r:Addr)(rows:cO)(sh:Int->List Int)(s:Int)(es:List Int)(yf:List V)(b:Addr):Prop where
 he:rows[s.toNat]?=some es
 hr:H r=some (.lst yf)
 ix:pG yf s=some (.ref b)
 it:bz H (.ref b) (aF es)
 il:(aF es).length<=1000
 rl:(bw sh (aF es)).length<=10000
 tt:ja (cK (sh s))=(sh s).length
 se:sh s=aS sh es
theorem oF.one{H:Hp}{r:Addr}{rows:cO}{sh:Int->List Int}{s:Int}(h:oF H r rows sh)(h0:0<=s)(h1:s<rows.length):∃ es yf b,aaE H r rows sh s es yf b:=by
 have eS:rows[s.toNat]?=some rows[s.toNat]:=qM ∅;obtain⟨yf,Fv,vQ⟩:=h.at_;obtain⟨vi,A5,hI⟩:=vQ.get' (i:=s.toNat) (b:=aF rows[s.toNat]) (by rw[fP,eS];rfl);obtain⟨b,IA,rfl,hb,rE⟩:=id hI;have z:=dc A5;rw[show ((s.toNat:Nat):Int)=s by lia]at z;have hil:=sJ rows[s.toNat] [];have hel:=h.ents _ (pA eS);obtain⟨Lg,hok⟩:=Ab sh rows[s.toNat];have se:=h.Pa s _ h0 eS;refine⟨_,yf,b,eS,Fv,z,hI,?_,?_,?_,se⟩
 ·show (rows[s.toNat].foldl bC []).length<=_;simp only[qQ]at hil;lia
 ·have q:=uR sh (aF rows[s.toNat]) hok;rw[Lg,← se]at q;have:=h.bd s h0 h1;lia
 ·rw[← sG _ (oU _),gA]
theorem mz(ns:List Int):(cK ns).length<=ns.length:=by
 have z:=zK ns [];simpa [cK] using z
def fE(sh:Int->List Int)(p:Int)(es new:List Int):List Int:=if new=[] then es else aE sh p 0 es++new++bE sh p 0 es
class inductive Sy
 | mk (r S:Addr) (aL:List aQ) (kvs:List (eT × V)) (sh:Int->List Int) (N:Addr->Prop) (_:vs=[.ref r,.ref S]) (_:bz H (.ref r) aL) (_:H S=some (.dK kvs)) (_:xr H kvs sh aL) (_:aL.length<=100000) (_:(∀ it∈aL,(cN sh it).length<=100000)) (_:(∀ n a,aQ.win n∈aL->cI kvs (Sum.inl n)=some (.ref a)->N a)) (_:(∀ a,H a=none->N a)) (_ :
 ∀ (o:Addr) (De:List V) (H':Hp),H' o=some (.lst De)->cu (nh N H') De (bX sh 0 aL)->aK H H'->H o=none->Q (.ref o) H')
theorem qe:aH ["items","views","told","first","item","row","last"] ["items","views"] (aA Hz):=fc
theorem FH:‹(2,25,["items","views"],Sy)›:=λD=>by
 specialize fG D.WA.F qe;obtain⟨r,S,aL,kvs,sh,N,rfl,⟨r',IA,e,jP,rE⟩,hS,hW,dO,hrl,nW,nN,k⟩:=h;cases e;exists _,(aj (aU (i:=2) qe.nd (bM ah)) (aj (aU (i:=3) qe.nd ay) (aj (dN PassesOwn.never rfl (cF (pv 0)) (b8 (i:=4) qe.nd) (aj (aU (i:=5) qe.nd (aC D.Wz (yg D) hr (aa (pv 4) (aa (pv 1) ah)))) (aj (aU (i:=6) qe.nd (bx dD (pv 3) (fO.vI D.Wv (D.T.oA _ D.Wv.m) (Dv D) hr (aa (pv 5) ah)))) (aj (aT (dX qC jX jY bU (pv 2) (aa (cJ (aa (pv 4) (aa (pv 5) (aa (pv 3) (aa (pv 6) ah))))) ah))) (au (aU (i:=3) qe.nd (pv 6))))))) (au (aN (pv 2))))));refine⟨iG,λq hq=>?_⟩;have s0:aK H (aM H q (.lst [])):=ak hq _;refine⟨Y,r,rfl,⟨_,bI.of (s0 _ _ jP)⟩,dH (K:=K) (a:=r) (xs:=IA) (λi σ H2=>∃ (vs:List V) (u1 u2 u3:Option V),σ=[some (.ref r),some (.ref S),some (.ref q),some (.int (0+ja (bw sh (aL.take i)))),u1,u2,u3]/\H2 q=some (.lst vs)/\cu (nh (λa=>N a/\a≠q) H2) vs (bX sh 0 (aL.take i))/\aK H H2) ⟨[],none,none,none,rfl,af,.nil,s0⟩ (by rintro i σ H2 _ ⟨_,_,_,_,_,_,_,s⟩;exact bI.of (s _ _ jP)) ?_ ?_⟩
 ·rintro i x σ H2 hi ⟨vs,u1,u2,u3,rfl,eL,hb,s⟩;obtain⟨it,ei,hiv⟩:=rE.get hi;have im:=pA ei;have bl:=hb.len;rw[Cn,gB]at bl;refine⟨Y,Y,x,it,S,kvs,λn=>cK (sh n),rfl,hiv.same s,s _ _ hS,λn hn=>(hW.same s) n (by rw[← hn];exact im),λa H3 R3 s3 w3=>?_⟩
  have na:N a/\a≠q:=by
   rcases w3 with ⟨n,rfl,hv⟩|h0
   ·exists nW n a im hv;obtain⟨b,Et,⟨as,QC,_⟩⟩:=hW n im;rw[hv]at Et;cases Et;exact az QC hq
   ·exact⟨nN a (aY s h0),(az eL h0).symm⟩
  refine⟨Y,Y,a,cN sh it,rfl,R3,gR (hrl it im) (by decide),λH4 s4=>⟨Z,?_⟩⟩;have Fy:=s4 _ _ (s3 _ _ eL);refine⟨Y,.inl ⟨rfl,_,bI.of Fy⟩,Y,Y,Y,Y,Dp,λt ht=>?_⟩;have hq5:=ak ht (.tup [x,.ref a,.int (0+ja (bw sh (aL.take i))),.int (0+ja (bw sh (aL.take i))+ja (cN sh it))]) _ _ Fy;refine⟨q,Z,hq5,aR ∅,?_⟩;refine⟨Y,_,some x,some (.ref a),some (.int (0+ja (bw sh (aL.take i))+ja (cN sh it))),?_,af,?_,bS hq (s.trans (s3.trans (s4.trans (ak ht _)))) (aG q _ _)⟩
  ·have e:bw sh (aL.take (i+1))=bw sh (aL.take i)++cN sh it:=by rw[take_snoc ei,ef,jk];rfl
   rw[e,zE,← Int.add_assoc];rfl
  ·have e:bX sh 0 (aL.take (i+1))=bX sh 0 (aL.take i)++[(it,cN sh it,0+ja (bw sh (aL.take i)),0+ja (bw sh (aL.take i))+ja (cN sh it))]:=by rw[take_snoc ei,vU];rfl
   rw[e];have Oi:t≠q:=(az Fy ht).symm;refine cu.snoc (hb.mono λv d h=>(((h.same s3).same s4).same (ak ht _)).keep hq5 (λa h=>h.2) (aG q _ _)) ⟨t,a,x,rfl,?_,?_,?_,na⟩
   ·rw[aJ Oi,af]
   ·exact ((((hiv.same s).same s3).same s4).same (ak ht _)).keep hq5 (aG q _ _)
   ·exact (((R3.same s4).same (ak ht _))).keep hq5 na.2 (aG q _ _)
 ·rintro σ H2 ⟨vs,u1,u2,u3,rfl,eL,hb,s⟩;rw[rE.len,gQ]at hb;exact⟨Y,k q vs H2 eL (hb.mono λv d ⟨a,ra,x,e,h,i,r,n⟩=>⟨a,ra,x,e,h,i,r,n.1⟩) s hq⟩
class inductive IJ
 | mk (r S o:Addr) (p:Int) (aL MY:List aQ) (kvs:List (eT × V)) (sh:Int->List Int) (_:vs=[.ref r,.ref S,.int p,.ref o]) (_:bz H (.ref r) aL) (_:H S=some (.dK kvs)) (_:xr H kvs sh aL) (_:bz H (.ref o) MY) (_:fm aL) (_:fm MY) (_:Sw sh aL) (_:aL.length<=50000) (_:(bw sh aL).length<=50000) (_:MY.length<=50000) (_ :
 ∀ (q:Addr) (H':Hp),bz H' (.ref q) (aF (aE sh p 0 (cZ aL)++cZ MY++bE sh p 0 (cZ aL)))->aK H H'->H q=none->Q (.ref q) H')
theorem fZ:aH ["items","views","place","others","ahead","behind","item","row","first","last"] ["items","views","place","others"] (aA uq):=fc
theorem vY:‹(3,26,["items","views","place","others"],IJ)›:=λD=>by
 specialize fG D.WB.F fZ;obtain⟨r,S,o,p,aL,MY,kvs,sh,rfl,hI,hS,hW,hO,ok1,ok2,nn,l1,l2,l3,k⟩:=h;exists _,(aj (aU (i:=4) fZ.nd (bM ah)) (aj (aU (i:=5) fZ.nd (bM ah)) (aj (dN PassesOwn.never rfl (cF (aC D.WA (FH D) hr (aa (pv 0) (aa (pv 1) ah)))) (kY (n:=4) rfl (bT (b8 (i:=6) fZ.nd) (bT (b8 (i:=7) fZ.nd) (bT (b8 (i:=8) fZ.nd) (bT (b8 (i:=9) fZ.nd) gC))))) (au (bP (aV gn (pv 9) (pv 2) (bh _)) (au (aT (dX qC jX jY bU (pv 4) (aa (pv 6) ah)))) (au (bP (aV gn (pv 2) (pv 8) (bh _)) (au (aT (dX qC jX jY bU (pv 5) (aa (pv 6) ah)))) (aj (qU (i:=4) fZ.nd rfl (Or.inl rfl) (aC D.Dq (kQ D) hr (aa (aC D.Ww (sN D) hr (aa (pv 7) (aa ay (aa (bx cQ (pv 2) (pv 8)) ah)))) ah)) uL) (au (qU (i:=5) fZ.nd rfl (Or.inl rfl) (aC D.Dq (kQ D) hr (aa (aC D.Ww (sN D) hr (aa (pv 7) (aa (bx cQ (pv 2) (pv 8)) (aa (bx cQ (pv 9) (pv 8)) ah)))) ah)) uL)))))))) (au (aN (aC D.Iv (gv D) hr (aa (bx jh (bx jh (pv 4) (pv 3)) (pv 5)) ah)))))));refine⟨iG,λA hA=>⟨iG,λB hB=>?_⟩⟩;have sA:aK H (aM H A (.lst [])):=ak hA _;have sB:aK _ (aM (aM H A (.lst [])) B (.lst [])):=ak hB _;have s0:=sA.trans sB;have AQ:A≠B:=az af hB;have M4:=aY sA hB;refine⟨Y,Y,r,S,aL,kvs,sh,λa=>a≠A/\a≠B,rfl,hI.same s0,s0 _ _ hS,hW.same s0,Q,(λit hi=>by have:=vX sh hi;lia),?_,?_,λD dv H1 hD Rh s1 _=>?_⟩
 ·intro n a hn hv;obtain⟨b,e,as,hb,_⟩:=hW n hn;rw[hv]at e;cases e;exact⟨az hb hA,az hb M4⟩
 ·intro a ha;exact⟨(az (sB _ _ af) ha).symm,(az af ha).symm⟩
 have hA1:=s1 _ _ (sB _ _ (af (H:=H) (a:=A) (o:=.lst [])));have hB1:=s1 _ _ (af (H:=aM H A (.lst [])) (a:=B) (o:=.lst []))
 have nD:D≠A/\D≠B:=by
  rename_i hD0;exact⟨(az (sB _ _ af) hD0).symm,(az af hD0).symm⟩
 have aes:=Ad sh (WZ p) aL 0;have aet:=Ad sh (W0 p) aL 0;have M5:=y9 sh aL 0 ok1 nn;refine⟨D,rfl,⟨_,bI.of hD⟩,dH (K:=K) (a:=D) (xs:=dv) (λi σ H2=>∃ u1 u2 u3 u4:Option V,σ=[some (.ref r),some (.ref S),some (.int p),some (.ref o),some (.ref A),some (.ref B),u1,u2,u3,u4]/\lP H1 A B (((bX sh 0 aL).take i).flatMap (aD p)) (((bX sh 0 aL).take i).flatMap (bD p)) H2) ⟨none,none,none,none,rfl,⟨_,hA1,.nil⟩,⟨_,hB1,.nil⟩,λ_ _ e _ _=>e⟩ (by rintro i σ H2 _ ⟨_,_,_,_,_,pv⟩;exact bI.of (pv.k _ _ hD nD.1 nD.2)) ?_ ?_⟩
 ·rintro i x σ H2 hi ⟨u1,u2,u3,u4,rfl,pv⟩;obtain⟨d,ed,LC⟩:=Rh.get hi;have hd2:=LC.UB hA1 hB1 (λa h=>h) pv.k;obtain⟨a,ra,xi,rfl,hta,hxi,X7,nra⟩:=hd2;have eA:=sQ (aD p) ed;have eB:=sQ (bD p) ed;have bA:=iH (aD p) (bX sh 0 aL) i;have bB:=iH (bD p) (bX sh 0 aL) i;have bA1:=iH (aD p) (bX sh 0 aL) (i+1);have bB1:=iH (bD p) (bX sh 0 aL) (i+1);obtain⟨v1,hv1,t1⟩:=pv.a;obtain⟨v2,hv2,t2⟩:=pv.b;have z1:=t1.len;have z2:=t2.len;obtain⟨it,row,fi,la⟩:=d
  have rl:row.length<=50000:=by
   have z:=pA ed
   have:∃ Rq∈aL,row=cN sh Rq:=by
    have q:∀ (aL:List aQ) (f:Int),(it,row,fi,la)∈bX sh f aL->∃ Rq∈aL,row=cN sh Rq:=by
     intro aL
     induction aL with
     | nil=>intro f h;cases h
     | cons i0 r0 ih =>
      intro f h;rw[bX]at h;rcases List.mem_cons.mp h with e|e
      ·cases e;exact⟨it,by simp,rfl⟩
      ·obtain⟨i1,m1,e1⟩:=ih _ e;exact⟨i1,mE _ m1,e1⟩
    exact q aL 0 z
   obtain⟨i1,m1,rfl⟩:=this;have:=vX sh m1;lia
  exists a,Y,cY.of hta,rfl,P,rfl,P,rfl,P,rfl,Z;refine⟨Y,Y,Z,Y,cW (λc=>?_) (λc=>?_)⟩
  ·have c':la<=p:=of_decide_eq_true c;refine⟨Y,.inl ⟨rfl,_,bI.of hv1⟩,Y,A,Z,hv1,aR ∅,?_⟩;exists K,Y;rw[eA,eB];have e1:aD p (it,row,fi,la)=[it]:=by unfold aD;rw[if_pos c']
   have e2:bD p (it,row,fi,la)=[]:=by unfold bD;rw[if_pos c']
   rw[e1,e2,gK];exact pv.Ku AQ hv1 (.cons hxi .nil)
  ·have c':¬ la<=p:=λz=>c (decide_eq_true z);refine⟨Y,Y,Z,Y,cW (λc2=>?_) (λc2=>?_)⟩
   ·have Mq:p<=fi:=of_decide_eq_true c2;refine⟨Y,.inl ⟨rfl,_,bI.of hv2⟩,Y,B,Z,hv2,aR ∅,?_⟩;exists K,Y;rw[eA,eB];have e1:aD p (it,row,fi,la)=[]:=by unfold aD;rw[if_neg c',if_pos Mq]
    have e2:bD p (it,row,fi,la)=[it]:=by unfold bD;rw[if_neg c',if_pos Mq]
    rw[e1,e2,gK];exact pv.Kv AQ hv2 (.cons hxi .nil)
   ·have Mq:¬ p<=fi:=λz=>c2 (decide_eq_true z);have e1:aD p (it,row,fi,la)=cD (bZ (kW 0 (p-fi) 0 row)):=by unfold aD;rw[if_neg c',if_neg Mq]
    have e2:bD p (it,row,fi,la)=cD (bZ (kW (p-fi) (la-fi) 0 row)):=by unfold bD;rw[if_neg c',if_neg Mq]
    rw[eA,e1,cP]at bA1;rw[eB,e2,cP]at bB1;refine⟨Y,Y,Y,Y,Z,ra,row,0,p-fi,rfl,X7,Q,λq1 H3 R3 s3 LO=>⟨q1,Y,R3,gR (j3 _ _ _ _) ∅,λq2 H4 I4 s4 eL=>?_⟩⟩;obtain⟨q2',v3,e3,h3,t3⟩:=I4;cases e3;have z3:=t3.len;have Mr:=s4 _ _ (s3 _ _ hv1);refine⟨A,q2,Z,Mr,h3,gM (aR ∅),?_⟩;have pv5:=((pv.same s3).same s4).Ku AQ Mr t3;have aez:ck (aM H4 A (.lst (v1++v3))) ra row:=((X7.same s3).same s4).keep Mr nra.1 (aG A _ _);have aeA:(aM H4 A (.lst (v1++v3))) B=some (.lst v2):=by rw[aJ AQ.symm];exact s4 _ _ (s3 _ _ hv2)
    refine⟨Y,Y,Y,Y,Z,Y,Y,Z,ra,row,p-fi,la-fi,rfl,aez,Q,λq3 H6 R6 s6 vL=>⟨q3,Y,R6,gR (j3 _ _ _ _) ∅,λq4 H7 I7 s7 Fy=>?_⟩⟩;obtain⟨q4',v4,e4,h4,t4⟩:=I7;cases e4;have z4:=t4.len;have UC:=s7 _ _ (s6 _ _ aeA);refine⟨B,q4,Z,UC,h4,gM (aR ∅),?_⟩;exists K,Y;rw[eA,eB,e1,e2];exact ((pv5.same s6).same s7).Kv AQ UC t4
 ·rintro σ H2 ⟨u1,u2,u3,u4,rfl,pv⟩;have dl:=Rh.len;rw[dl,gQ]at pv;obtain⟨v1,hv1,t1⟩:=pv.a;obtain⟨v2,hv2,t2⟩:=pv.b;have z1:=t1.len;have z2:=t2.len;have sm:aK H H2:=λa ob e=>pv.k a ob (s1 _ _ (s0 _ _ e)) (az e hA) (az e M4);obtain⟨o',v3,e3,h3,t3⟩:=hO.same sm;cases e3;have z3:=t3.len;refine⟨Y,Y,A,o,Z,hv1,h3,gM (aR ∅),λc1 RG=>?_⟩;have n1:aK H2 (aM H2 c1 (.lst (v1++v3))):=ak RG _;refine⟨Y,c1,B,Z,af,n1 _ _ hv2,gM (aR (by rw[cP];lia)),λc2 Xa=>?_⟩;have n2:aK _ (aM (aM H2 c1 (.lst (v1++v3))) c2 (.lst (v1++v3++v2))):=ak Xa _;have VX:=n1.trans n2;refine⟨c2,Y,⟨c2,Y,af,((t1.app t3).app t2).mono λv i h=>h.same VX⟩,by rw[cP,cP];lia,λq H9 I9 s9 hq9=>?_⟩;have okA:fm ((bX sh 0 aL).flatMap (aD p)):=vW λd hd=>aaC (M5 d hd).1 (M5 d hd).2;have okB:fm ((bX sh 0 aL).flatMap (bD p)):=vW λd hd=>aaD (M5 d hd).1 (M5 d hd).2;rw[jt _ ((okA.append ok2).append okB),dh,dh,FG sh p aL 0 ok1,Co sh p aL 0 ok1]at I9;exact k q H9 I9 (sm.trans (VX.trans s9)) (aY (sm.trans VX) hq9)
class inductive yh
 | mk (r o:Addr) (rows:cO) (s p:Int) (aL:List aQ) (sh:Int->List Int) (_:vs=[.ref r,.int s,.int p,.ref o]) (_:oF H r rows sh) (_:0<=s) (_:s<rows.length) (_:bz H (.ref o) aL) (_:fm aL) (_:aL.length<=10000) (_:0<=p/\p<=(sh s).length) (_:(∀ (es:List Int) (q:Addr) (H':Hp),rows[s.toNat]?=some es->bz H' (.ref q) (aF (fE sh p es (cZ aL)))->aK H H'->H q=none->Q (.ref q) H'))
theorem Pb{aL:List aQ}(h:fm aL):cZ aL=[]↔aL=[]:=by
 refine⟨λe=>?_,λe=>by rw[e];rfl⟩
 cases aL with
 | nil=>rfl
 | cons it r =>
  have e1:cZ (it::r)=fk it++cZ r:=by unfold cZ;rw[je]
  rw[e1]at e;have e2:=(List.append_eq_nil_iff.mp e).1
  cases it with
  | win n=>cases e2
  | aI a b =>
   have ab:a<b:=(h (.aI a b) (by simp)).2;have:=gD a (b-a).toNat;have e3:run a (b-a).toNat=[]:=e2;rw[e3]at this;simp only[qQ]at this;lia
theorem yi:aH ["rows","sheet","place","items","views"] ["rows","sheet","place","items"] (aA uu):=fc
theorem qf:‹(4,27,["rows","sheet","place","items"],yh)›:=λD=>by
 refine fG D.RT.F yi λdm A zn s0 H vs Q E hr h=>?_;obtain⟨r,o,rows,s,p,aL,sh,rfl,R,h0,h1,hO,ok,ol,hp,k1⟩:=h;have hu:=gT hr;refine⟨_,(aj (aU (i:=4) yi.nd (aC D.OS (jH D) hr (aa (pv 0) (aa (bM (aa (pv 1) ah)) ah)))) (aj (aT (aC D.X5 (gH D) hr (aa (ie hu (pv 4) (pv 1)) (aa (pv 2) (aa (pv 2) ah))))) (aj (bP (mG (ku (pv 3) (λ_=>rfl))) (au (aN (aC D.Iv (gv D) hr (aa (aP bG (pv 0) (pv 1)) ah)))) bf) (au (aN (aC D.WB (vY D) hr (aa (aP bG (pv 0) (pv 1)) (aa (pv 4) (aa (pv 2) (aa (pv 3) ah)))))))))),?_⟩;refine⟨Y,Y,m6,λL hL=>?_⟩;have s1:aK H (aM H L (.lst [.int s])):=ak hL _;refine⟨r,L,rows,[s],sh,rfl,R.at_.same s1,af,by simp,R.len,R.ents,R.snd,R.rk,(λx hx=>by rw[List.mem_singleton.mp hx];exact⟨h0,h1⟩),R.Pa,R.bd,λS kvs ks H2 hS hv tp sk hn s2 hS0=>?_⟩;have UD:=sk s (by simp);obtain⟨a,ha,Ra⟩:=hv s UD;have z:=jD.k (k:=Sum.inl s) hS;rw[ha]at z;have jU:=s1.trans s2;have shl:=R.bd s h0 h1;have rol:=mz (sh s);obtain⟨es,yf,b,O⟩:=(R.same jU).one h0 h1;refine⟨Y,Y,S,Y,z,Y,Y,a,cK (sh s),p,p,rfl,Ra,Q,⟨hp.1,Int.le_refl _,by rw[O.tt];exact hp.2⟩,λH3 s3=>?_⟩
 ·obtain⟨wz,aaJ,b',O3⟩:=(R.same (jU.trans s3)).one h0 h1;have ee:es=wz:=qP (O.he.symm.trans O3.he);subst ee;have hO3:=hO.same (jU.trans s3);obtain⟨o',ovs,eo,ho,to⟩:=id hO3;cases eo;exists Y,!ovs.isEmpty,.inl ⟨_,bI.of ho,rfl⟩;have el:=to.len
  cases aL with
  | nil =>
   have:ovs=[]:=List.eq_nil_of_length_eq_zero (by simpa using el);subst this;refine jA ?_;refine⟨Y,Y,r,K,V,bI.of O3.hr,O3.ix,b',aF es,rfl,O3.it,gR O3.il (by decide),λq H4 I4 s4 hq=>?_⟩;refine k1 es q H4 O.he ?_ (jU.trans (s3.trans s4)) (aY (jU.trans s3) hq);obtain⟨e1,e2⟩:=j4 es;rw[jt _ e2,e1]at I4;exact I4
  | cons it r0 =>
   have:(!ovs.isEmpty)=true:=by
    cases ovs with
    | nil=>simp at el
    | cons _ _=>rfl
   rw[this];refine gh ?_;refine⟨Y,Y,r,K,V,bI.of O3.hr,O3.ix,Y,Y,Y,b',S,o,p,aF es,it::r0,kvs,sh,rfl,O3.it,s3 _ _ hS,λn hn=>?_,hO3,(j4 es).2,ok,λn hn=>?_,gR O3.il (by decide),gR O3.rl (by decide),gR ol (by decide),λq H4 I4 s4 hq=>?_⟩
   ·have nx:=sR h0 O.he hn;obtain⟨i,hi⟩:=List.getElem?_of_mem UD;obtain⟨a2,e2,R2⟩:=hv n (List.mem_of_mem_take (tp.dn i s hi n nx));exact⟨a2,e2,R2.same s3⟩
   ·have nx:=sR h0 O.he hn;obtain⟨n0,n1⟩:=R.snd.Es nx;exact oW R.snd R.rk R.Pa n n0 n1
   ·refine k1 es q H4 O.he ?_ (jU.trans (s3.trans s4)) (aY (jU.trans s3) hq);rw[(j4 es).1]at I4;unfold fE;rw[if_neg (λz=>by cases (Pb ok).mp z)];exact I4
def kD(a b:Int)(d:nE):List aQ:=if d.2.2.2<=a\/b<=d.2.2.1 then [d.1] else if a<=d.2.2.1/\d.2.2.2<=b then [] else cD (bZ (kW 0 (a-d.2.2.1) 0 d.2.1++kW (b-d.2.2.1) (d.2.2.2-d.2.2.1) 0 d.2.1))
def tD(a b:Int)(d:nE):List aQ:=if d.2.2.2<=a\/b<=d.2.2.1 then [] else if a<=d.2.2.1/\d.2.2.2<=b then [d.1] else cD (bZ (kW (a-d.2.2.1) (b-d.2.2.1) 0 d.2.1))
def Kw(sh:Int->List Int)(a b f e:Int):List Int:=if f+(aW sh e).length<=a\/b<=f then [e] else if a<=f/\f+(aW sh e).length<=b then [] else (aW sh e).take (a-f).toNat++(aW sh e).drop (b-f).toNat
def M6(sh:Int->List Int)(a b f e:Int):List Int:=if f+(aW sh e).length<=a\/b<=f then [] else if a<=f/\f+(aW sh e).length<=b then [e] else ((aW sh e).take (b-f).toNat).drop (a-f).toNat
def kE(sh:Int->List Int)(a b:Int):Int->List Int->List Int
 | _,[]=>[]
 | f,e::r=>Kw sh a b f e++kE sh a b (f+(aW sh e).length) r
def tE(sh:Int->List Int)(a b:Int):Int->List Int->List Int
 | _,[]=>[]
 | f,e::r=>M6 sh a b f e++tE sh a b (f+(aW sh e).length) r
theorem xy(sh:Int->List Int)(a b:Int)(y:List Int):∀ (x:List Int) (f:Int),kE sh a b f (x++y)=kE sh a b f x++kE sh a b (f+(aS sh x).length) y
 | [],f=>by simp[kE,aS]
 | e::x,f=>by
  rw[List.cons_append,kE,kE,xy sh a b y x,nC,bQ,cP,Int.add_assoc]
  push_cast
  rfl
theorem xA(sh:Int->List Int)(a b:Int)(y:List Int):∀ (x:List Int) (f:Int),tE sh a b f (x++y)=tE sh a b f x++tE sh a b (f+(aS sh x).length) y
 | [],f=>by simp[tE,aS]
 | e::x,f=>by
  rw[List.cons_append,tE,tE,xA sh a b y x,nC,bQ,cP,Int.add_assoc]
  push_cast
  rfl
theorem X8{a f:Int}(h:f<a):(a-f).toNat=(a-(f+1)).toNat+1:=by lia
theorem M7{a f:Int}(h:a<=f):(a-f).toNat=0:=Int.toNat_of_nonpos (Int.sub_nonpos_of_le h)
theorem X9{a f:Int}(h:a<=f):(a-(f+1)).toNat=0:=M7 (Int.le_trans h (Int.le_of_lt (Int.lt_succ f)))
theorem nS{a f:Int}(h:¬ f+1<=a):a<=f:=Int.not_lt.mp h
theorem Pc(sh:Int->List Int){a b:Int}(ab:a<b):∀ (n:Nat) (x f:Int),0<=x->kE sh a b f (run x n)=(run x n).take (a-f).toNat++(run x n).drop (b-f).toNat
 | 0,_,_,_=>by simp[run,kE]
 | n+1,x,f,h=>by
  rw[run,kE,Pc sh ab n (x+1) _ ∅];unfold Kw;rw[sO sh h];show (if f+1<=a\/b<=f then [x] else if a<=f/\f+1<=b then [] else _)++((run (x+1) n).take (a-(f+1)).toNat++(run (x+1) n).drop (b-(f+1)).toNat)=_;by_cases c1:f+1<=a
  ·rw[if_pos (.inl c1),X8 c1,X8 (Int.lt_trans c1 ab)];rfl
  ·by_cases c2:b<=f
   ·rw[if_pos (.inr c2),M7 (nS c1),M7 c2,X9 (nS c1),X9 c2];rfl
   ·rw[if_neg (λz=>z.elim c1 c2),if_pos ⟨nS c1,Int.not_le.mp c2⟩,M7 (nS c1),X8 (Int.not_le.mp c2),X9 (nS c1)];rfl
theorem Pd(sh:Int->List Int){a b:Int}(ab:a<b):∀ (n:Nat) (x f:Int),0<=x->tE sh a b f (run x n)=((run x n).take (b-f).toNat).drop (a-f).toNat
 | 0,_,_,_=>by simp[run,tE]
 | n+1,x,f,h=>by
  rw[run,tE,Pd sh ab n (x+1) _ ∅];unfold M6;rw[sO sh h];show (if f+1<=a\/b<=f then [] else if a<=f/\f+1<=b then [x] else _)++((run (x+1) n).take (b-(f+1)).toNat).drop (a-(f+1)).toNat=_;by_cases c1:f+1<=a
  ·rw[if_pos (.inl c1),X8 c1,X8 (Int.lt_trans c1 ab)];rfl
  ·by_cases c2:b<=f
   ·rw[if_pos (.inr c2),M7 c2,X9 c2];simp
   ·rw[if_neg (λz=>z.elim c1 c2),if_pos ⟨nS c1,Int.not_le.mp c2⟩,M7 (nS c1),X8 (Int.not_le.mp c2),X9 (nS c1)];rfl
theorem Ms{a b t:Int}{r:Row}(ok:∀ p∈r,p.1<=p.2)(h:(bu r).length<=t.toNat):bu (bZ (kW 0 a 0 r++kW b t 0 r))=(bu r).take a.toNat++(bu r).drop b.toNat:=by
 rw[jo _ (Wb (C8 _ _ _ _) (C8 _ _ _ _)),cU,sI _ _ _ _ ok,sI _ _ _ _ ok];show ((bu r).take (a-0).toNat).drop 0++((bu r).take (t-0).toNat).drop (b-0).toNat=_;rw[Int.sub_zero,Int.sub_zero,Int.sub_zero,uc h];rfl
theorem aaK(sh:Int->List Int){a b:Int}(ab:a<b)(f:Int)(it:aQ)(h:lO it):cZ (kD a b (it,cN sh it,f,f+ja (cN sh it)))=kE sh a b f (fk it):=by
 have tt:=kT sh it h
 have sp:cZ (cD (bZ (kW 0 (a-f) 0 (cN sh it)++kW (b-f) (f+ja (cN sh it)-f) 0 (cN sh it))))=(aS sh (fk it)).take (a-f).toNat++(aS sh (fk it)).drop (b-f).toNat:=by
  rw[ng,Ms (vV sh it h) (by rw[j5 sh it h,tt];lia),j5 sh it h]
 unfold kD;show cZ (if f+ja (cN sh it)<=a\/b<=f then [it] else if a<=f/\f+ja (cN sh it)<=b then [] else cD (bZ (kW 0 (a-f) 0 (cN sh it)++kW (b-f) (f+ja (cN sh it)-f) 0 (cN sh it))))=_;have c1:(f+ja (cN sh it)<=a\/b<=f)=(f+(aS sh (fk it)).length<=a\/b<=f):=by rw[tt]
 have c2:(a<=f/\f+ja (cN sh it)<=b)=(a<=f/\f+(aS sh (fk it)).length<=b):=by rw[tt]
 simp only[c1,c2]
 cases it with
 | win n =>
  have e1:aS sh (fk (.win n))=aW sh (-1-n):=by show aS sh [-1-n]=_;rw[bQ];simp[aS]
  rw[e1]at sp ⊢;show _=kE sh a b f [-1-n];rw[kE,kE,gK];unfold Kw;split
  ·rfl
  ·split
   ·rfl
   ·exact sp
 | aI x y =>
  have e1:aS sh (fk (.aI x y))=run x (y-x).toNat:=mw sh _ _ h.1;rw[e1]at sp ⊢;show _=kE sh a b f (run x (y-x).toNat);rw[Pc sh ab _ _ _ h.1];have rl:=gD x (y-x).toNat;split
  ·rename_i c;rw[iX];rcases c with c|c
   ·rw[uc ∅,vg ∅,gK];rfl
   ·rw[M7 (Int.le_trans (Int.le_of_lt ab) c),M7 c];rfl
  ·split
   ·rename_i c;rw[M7 c.1,vg ∅];rfl
   ·exact sp
theorem aaL(sh:Int->List Int){a b:Int}(ab:a<b)(f:Int)(it:aQ)(h:lO it):cZ (tD a b (it,cN sh it,f,f+ja (cN sh it)))=tE sh a b f (fk it):=by
 have tt:=kT sh it h
 have sp:cZ (cD (bZ (kW (a-f) (b-f) 0 (cN sh it))))=((aS sh (fk it)).take (b-f).toNat).drop (a-f).toNat:=by
  rw[ng,qb _ _ _ (vV sh it h),j5 sh it h]
 unfold tD;show cZ (if f+ja (cN sh it)<=a\/b<=f then [] else if a<=f/\f+ja (cN sh it)<=b then [it] else cD (bZ (kW (a-f) (b-f) 0 (cN sh it))))=_;rw[tt]
 cases it with
 | win n =>
  have e1:aS sh (fk (.win n))=aW sh (-1-n):=by show aS sh [-1-n]=_;rw[bQ];simp[aS]
  rw[e1]at sp ⊢;show _=tE sh a b f [-1-n];rw[tE,tE,gK];unfold M6;split
  ·rfl
  ·split
   ·rfl
   ·exact sp
 | aI x y =>
  have e1:aS sh (fk (.aI x y))=run x (y-x).toNat:=mw sh _ _ h.1;rw[e1]at sp ⊢;show _=tE sh a b f (run x (y-x).toNat);rw[Pd sh ab _ _ _ h.1];have rl:=gD x (y-x).toNat;split
  ·rename_i c;rcases c with c|c
   ·rw[vg (by rw[gB];lia)];rfl
   ·rw[M7 c];simp[cZ]
  ·split
   ·rename_i c;rw[iX,M7 c.1,uc ∅];rfl
   ·exact sp
theorem DA(sh:Int->List Int){a b:Int}(ab:a<b):∀ (aL:List aQ) (f:Int),fm aL->cZ ((bX sh f aL).flatMap (kD a b))=kE sh a b f (cZ aL)
 | [],f,_=>rfl
 | it::r,f,h=>by
  have h1:=h it (by simp);rw[bX,je,dh,aaK sh ab f it h1,DA sh ab r _ λi hi=>h i (mE _ hi)];have e:cZ (it::r)=fk it++cZ r:=by unfold cZ;rw[je]
  rw[e,xy,kT sh it h1]
theorem FI(sh:Int->List Int){a b:Int}(ab:a<b):∀ (aL:List aQ) (f:Int),fm aL->cZ ((bX sh f aL).flatMap (tD a b))=tE sh a b f (cZ aL)
 | [],f,_=>rfl
 | it::r,f,h=>by
  have h1:=h it (by simp);rw[bX,je,dh,aaL sh ab f it h1,FI sh ab r _ λi hi=>h i (mE _ hi)];have e:cZ (it::r)=fk it++cZ r:=by unfold cZ;rw[je]
  rw[e,xA,kT sh it h1]
theorem UE{a b:Int}{d:nE}(h:lO d.1)(g:lN d.2.1):fm (kD a b d):=by
 unfold kD;split
 ·exact fm.one h
 ·split
  ·exact λi hi=>by cases hi
  ·exact rL (mq λp hp=>(List.mem_append.mp hp).elim (zT _ _ _ _ g p) (zT _ _ _ _ g p))
theorem aaM{a b:Int}{d:nE}(h:lO d.1)(g:lN d.2.1):fm (tD a b d):=by
 unfold tD;split
 ·exact λi hi=>by cases hi
 ·split
  ·exact fm.one h
  ·exact Ac g
theorem IK(a b:Int)(d:nE):(kD a b d).length<=d.2.1.length+d.2.1.length+1:=by
 unfold kD;split
 ·simp
 ·split
  ·simp
  ·rw[za];refine gR (jq _) ?_;rw[cP];have:=j3 0 (a-d.2.2.1) d.2.1 0;have:=j3 (b-d.2.2.1) (d.2.2.2-d.2.2.1) d.2.1 0;lia
theorem Pe(a b:Int)(d:nE):(tD a b d).length<=d.2.1.length+d.2.1.length+1:=by
 unfold tD;split
 ·simp
 ·split
  ·simp
  ·exact gR (sP _ _ _) ∅
theorem mC(sh:Int->List Int){g:nE->List aQ}(hg:∀ d,(g d).length<=d.2.1.length+d.2.1.length+1):∀ (aL:List aQ) (f:Int),((bX sh f aL).flatMap g).length<=(bw sh aL).length+(bw sh aL).length+aL.length
 | [],_=>by simp[bX]
 | it::r,f=>by
  rw[bX,je,cP];have a:=hg (it,cN sh it,f,f+ja (cN sh it));have b:=mC sh hg r (f+ja (cN sh it));have e:bw sh (it::r)=cN sh it++bw sh r:=by unfold bw;rw[je];rfl
  rw[e,cP,lR];simp only at a;lia
theorem FJ(sh:Int->List Int)(it:aQ)(row:Row)(fi la:Int):∀ (aL:List aQ) (f:Int),(it,row,fi,la)∈bX sh f aL->∃ Rq∈aL,row=cN sh Rq
 | [],_,h=>by cases h
 | i0::r0,f,h=>by
  rw[bX]at h;rcases List.mem_cons.mp h with e|e
  ·cases e;exact⟨it,by simp,rfl⟩
  ·obtain⟨i1,m1,e1⟩:=FJ sh it row fi la r0 _ e;exact⟨i1,mE _ m1,e1⟩
theorem Cp(sh:Int->List Int):∀ (aL:List aQ) (f:Int) (d:nE),d∈bX sh f aL->d.1∈aL
 | [],_,_,h=>by cases h
 | i0::r0,f,d,h=>by
  rw[bX]at h;rcases List.mem_cons.mp h with e|e
  ·subst e;simp
  ·exact mE _ (Cp sh r0 _ d e)
theorem FL(sh:Int->List Int){a b n:Int}{aL:List aQ}(h:aQ.win n∈(bX sh 0 aL).flatMap (kD a b)):aQ.win n∈aL:=by
 obtain⟨d,hd,hm⟩:=List.mem_flatMap.mp h;unfold kD at hm;split at hm
 ·rw[List.mem_singleton.mp hm];exact Cp sh aL 0 d hd
 ·split at hm
  ·cases hm
  ·unfold cD at hm;obtain⟨p,_,e⟩:=List.mem_map.mp hm;cases e
theorem Cq{H:Hp}{A:Addr}{l:List aQ}{vs:List V}(h:H A=some (.lst vs))(t:cu (cG H) vs l):bz H (.ref A) l:=⟨A,vs,rfl,h,t⟩
def bR(sh:Int->List Int)(a b:Int)(es:List Int):List Int:=if a=b then es else kE sh a b 0 es
def ig(sh:Int->List Int)(a b:Int)(es:List Int):List Int:=if a=b then [] else tE sh a b 0 es
class inductive Pf
 | mk (r S:Addr) (a b:Int) (aL:List aQ) (kvs:List (eT × V)) (sh:Int->List Int) (_:vs=[.ref r,.ref S,.int a,.int b]) (_:bz H (.ref r) aL) (_:H S=some (.dK kvs)) (_:xr H kvs sh aL) (_:aL.length<=10000) (_:(bw sh aL).length<=20000) (_ :
 ∀ (t L M:Addr) (H':Hp),H' t=some (.tup [.ref L,.ref M])->bz H' (.ref L) ((bX sh 0 aL).flatMap (kD a b))->bz H' (.ref M) ((bX sh 0 aL).flatMap (tD a b))->aK H H'->Q (.ref t) H')
theorem jJ:aH ["items","views","start","stop","left","taken","item","row","first","last"] ["items","views","start","stop"] (aA C1):=fc
theorem Cr:‹(3,28,["items","views","start","stop"],Pf)›:=λD=>by
 have DB:bq P w K mg zt cM 1 (aZ 7) (br 7) ["row","start","stop"] E3:=sN D;specialize fG D.WC.F jJ;obtain⟨r,S,p,q,aL,kvs,sh,rfl,hI,hS,hW,l1,l2,k⟩:=h;exists _,(aj (aU (i:=4) jJ.nd (bM ah)) (aj (aU (i:=5) jJ.nd (bM ah)) (aj (dN PassesOwn.never rfl (cF (aC D.WA (FH D) hr (aa (pv 0) (aa (pv 1) ah)))) (kY (n:=4) rfl (bT (b8 (i:=6) jJ.nd) (bT (b8 (i:=7) jJ.nd) (bT (b8 (i:=8) jJ.nd) (bT (b8 (i:=9) jJ.nd) gC))))) (au (bP (PW.pt (JI (aV gn (pv 9) (pv 2) (bh _)) (G3 (aV gn (pv 3) (pv 8) (bh _))))) (au (aT (dX qC jX jY bU (pv 4) (aa (pv 6) ah)))) (au (bP (PW.pt (qR (aV gn (pv 2) (pv 8) (bh _)) (nG (aV gn (pv 9) (pv 3) (bh _))))) (au (aT (dX qC jX jY bU (pv 5) (aa (pv 6) ah)))) (aj (qU (i:=4) jJ.nd rfl (Or.inl rfl) (aC D.Dq (kQ D) hr (aa (bx jh (aC D.Ww DB hr (aa (pv 7) (aa ay (aa (bx cQ (pv 2) (pv 8)) ah)))) (aC D.Ww DB hr (aa (pv 7) (aa (bx cQ (pv 3) (pv 8)) (aa (bx cQ (pv 9) (pv 8)) ah))))) ah)) uL) (au (qU (i:=5) jJ.nd rfl (Or.inl rfl) (aC D.Dq (kQ D) hr (aa (aC D.Ww DB hr (aa (pv 7) (aa (bx cQ (pv 2) (pv 8)) (aa (bx cQ (pv 3) (pv 8)) ah)))) ah)) uL)))))))) (au (aN (cJ (aa (pv 4) (aa (pv 5) ah))))))));refine⟨iG,λA hA=>⟨iG,λB hB=>?_⟩⟩;have sA:aK H (aM H A (.lst [])):=ak hA _;have sB:aK _ (aM (aM H A (.lst [])) B (.lst [])):=ak hB _;have s0:=sA.trans sB;have AQ:A≠B:=az af hB;have M4:=aY sA hB;refine⟨Y,Y,r,S,aL,kvs,sh,λa=>a≠A/\a≠B,rfl,hI.same s0,s0 _ _ hS,hW.same s0,Q,(λit hi=>by have:=vX sh hi;lia),?_,?_,λD dv H1 hD Rh s1 _=>?_⟩
 ·intro n a hn hv;obtain⟨b,e,as,hb,_⟩:=hW n hn;rw[hv]at e;cases e;exact⟨az hb hA,az hb M4⟩
 ·intro a ha;exact⟨(az (sB _ _ af) ha).symm,(az af ha).symm⟩
 have hA1:=s1 _ _ (sB _ _ (af (H:=H) (a:=A) (o:=.lst [])));have hB1:=s1 _ _ (af (H:=aM H A (.lst [])) (a:=B) (o:=.lst []))
 have nD:D≠A/\D≠B:=by
  rename_i hD0;exact⟨(az (sB _ _ af) hD0).symm,(az af hD0).symm⟩
 have aes:=mC sh (IK p q) aL 0;have aet:=mC sh (Pe p q) aL 0;refine⟨D,rfl,⟨_,bI.of hD⟩,dH (K:=K) (a:=D) (xs:=dv) (λi σ H2=>∃ u1 u2 u3 u4:Option V,σ=[some (.ref r),some (.ref S),some (.int p),some (.int q),some (.ref A),some (.ref B),u1,u2,u3,u4]/\lP H1 A B (((bX sh 0 aL).take i).flatMap (kD p q)) (((bX sh 0 aL).take i).flatMap (tD p q)) H2) ⟨none,none,none,none,rfl,⟨_,hA1,.nil⟩,⟨_,hB1,.nil⟩,λ_ _ e _ _=>e⟩ (by rintro i σ H2 _ ⟨_,_,_,_,_,pv⟩;exact bI.of (pv.k _ _ hD nD.1 nD.2)) ?_ ?_⟩
 ·rintro i x σ H2 hi ⟨u1,u2,u3,u4,rfl,pv⟩;obtain⟨d,ed,LC⟩:=Rh.get hi;have hd2:=LC.UB hA1 hB1 (λa h=>h) pv.k;obtain⟨a,ra,xi,rfl,hta,hxi,X7,nra⟩:=hd2;have eA:=sQ (kD p q) ed;have eB:=sQ (tD p q) ed;have bA:=iH (kD p q) (bX sh 0 aL) i;have bB:=iH (tD p q) (bX sh 0 aL) i;have bA1:=iH (kD p q) (bX sh 0 aL) (i+1);have bB1:=iH (tD p q) (bX sh 0 aL) (i+1);obtain⟨v1,hv1,t1⟩:=pv.a;obtain⟨v2,hv2,t2⟩:=pv.b;have z1:=t1.len;have z2:=t2.len;obtain⟨it,row,fi,la⟩:=d
  have rl:row.length<=20000:=by
   obtain⟨i1,m1,rfl⟩:=FJ sh it row fi la aL 0 (pA ed);have:=vX sh m1;lia
  have mV:v1.length<sizeLine:=aR ∅
  have Ae:(la<=p\/q<=fi)->lP H1 A B (((bX sh 0 aL).take (i+1)).flatMap (kD p q)) (((bX sh 0 aL).take (i+1)).flatMap (tD p q)) (aM H2 A (.lst (v1++[xi]))):=λc=>by
   rw[eA,eB];have e1:kD p q (it,row,fi,la)=[it]:=by unfold kD;rw[if_pos c]
   have e2:tD p q (it,row,fi,la)=[]:=by unfold tD;rw[if_pos c]
   rw[e1,e2,gK];exact pv.Ku AQ hv1 (.cons hxi .nil)
  exists a,Y,cY.of hta,rfl,P,rfl,P,rfl,P,rfl,Z;refine⟨Y,Y,Z,Y,cW (λc=>jA ?_) (λc=>?_)⟩
  ·exact⟨Y,.inl ⟨rfl,_,bI.of hv1⟩,Y,A,Z,hv1,mV,K,Y,Ae (.inl (of_decide_eq_true c))⟩
  have c':¬ la<=p:=λz=>c (decide_eq_true z);refine⟨Y,Y,Z,Y,cW (λc2=>?_) (λc2=>?_)⟩
  ·exact⟨Y,.inl ⟨rfl,_,bI.of hv1⟩,Y,A,Z,hv1,mV,K,Y,Ae (.inr (of_decide_eq_true c2))⟩
  have Mq:¬ q<=fi:=λz=>c2 (decide_eq_true z);have n1:¬ (la<=p\/q<=fi):=λz=>z.elim c' Mq
  have part:¬ (p<=fi/\la<=q)->lP H1 A B (((bX sh 0 aL).take i).flatMap (kD p q)) (((bX sh 0 aL).take i).flatMap (tD p q)) H2->kD p q (it,row,fi,la)=cD (bZ (kW 0 (p-fi) 0 row++kW (q-fi) (la-fi) 0 row))/\tD p q (it,row,fi,la)=cD (bZ (kW (p-fi) (q-fi) 0 row)):=λc3 _=>by
   exists ?_
   ·unfold kD;rw[if_neg n1,if_neg c3]
   ·unfold tD;rw[if_neg n1,if_neg c3]
  have go:¬ (p<=fi/\la<=q)->∀ (q1 q2:Addr) (v3:List V) (H4:Hp),H4 q2=some (.lst v3)->cu (cG H4) v3 (cD (bZ (kW 0 (p-fi) 0 row++kW (q-fi) (la-fi) 0 row)))->aK H2 H4->v1.length+v3.length<=sizeLine/\lP H1 A B (((bX sh 0 aL).take (i+1)).flatMap (kD p q)) (((bX sh 0 aL).take i).flatMap (tD p q)) (aM H4 A (.lst (v1++v3)))/\ck (aM H4 A (.lst (v1++v3))) ra row/\(aM H4 A (.lst (v1++v3))) B=some (.lst v2):=λc3 q1 q2 v3 H4 h3 t3 s4=>by
   obtain⟨e1,e2⟩:=part c3 pv;have z3:=t3.len;rw[eA,e1,cP]at bA1;have Mr:=s4 _ _ hv1;refine⟨Nat.le_of_lt (aR ∅),?_,(X7.same s4).keep Mr nra.1 (aG A _ _),by rw[aJ AQ.symm];exact s4 _ _ hv2⟩;rw[eA,e1];exact (pv.same s4).Ku AQ Mr t3
  have go2:¬ (p<=fi/\la<=q)->∀ (v4:List V) (H5 H7:Hp),lP H1 A B (((bX sh 0 aL).take (i+1)).flatMap (kD p q)) (((bX sh 0 aL).take i).flatMap (tD p q)) H5->H5 B=some (.lst v2)->cu (cG H7) v4 (cD (bZ (kW (p-fi) (q-fi) 0 row)))->aK H5 H7->v2.length+v4.length<=sizeLine/\lP H1 A B (((bX sh 0 aL).take (i+1)).flatMap (kD p q)) (((bX sh 0 aL).take (i+1)).flatMap (tD p q)) (aM H7 B (.lst (v2++v4))):=λc3 v4 H5 H7 pv5 h5 t4 s7=>by
   obtain⟨e1,e2⟩:=part c3 pv;have z4:=t4.len;rw[eB,e2,cP]at bB1;refine⟨Nat.le_of_lt (aR ∅),?_⟩;rw[eB,e2];exact (pv5.same s7).Kv AQ (s7 _ _ h5) t4
  have pl1:=j3 0 (p-fi) row 0;have pl2:=j3 (q-fi) (la-fi) row 0;have pl3:=j3 (p-fi) (q-fi) row 0;refine⟨Y,Y,Z,Y,OA (λz=>⟨Y,Y,Z,Y,z⟩) (λc5=>?_) (λc5=>?_)⟩
  ·exists Y,.inl ⟨rfl,_,bI.of hv2⟩,Y,B,Z,hv2,aR ∅,K,Y;rw[eA,eB];have e1:kD p q (it,row,fi,la)=[]:=by unfold kD;rw[if_neg n1,if_pos c5]
   have e2:tD p q (it,row,fi,la)=[it]:=by unfold tD;rw[if_neg n1,if_pos c5]
   rw[e1,e2,gK];exact pv.Kv AQ hv2 (.cons hxi .nil)
  ·refine⟨Y,Y,Y,Y,Z,ra,row,0,p-fi,rfl,X7,Q,λq1 H3 R3 s3 LO=>?_⟩;obtain⟨as3,ha3,pa3⟩:=id R3;have n3:=pa3.len;refine⟨Y,Y,Y,Z,Y,Y,Z,ra,row,q-fi,la-fi,rfl,X7.same s3,Q,λq2 H4 R4 s4 eL=>?_⟩;obtain⟨as4,ha4,pa4⟩:=id R4;have n4:=pa4.len;refine⟨q1,q2,Z,s4 _ _ ha3,ha4,(by rw[cz,cz];exact gM (aR ∅)),λm hm=>?_⟩;have s5:aK H4 (aM H4 m (.lst (as3.map V.ref++as4.map V.ref))):=ak hm _;refine⟨m,kW 0 (p-fi) 0 row++kW (q-fi) (la-fi) 0 row,rfl,⟨as3++as4,by rw[af,gy],bg.append ((pa3.same s4).same s5) (pa4.same s5)⟩,by rw[cP];lia,λq3 H6 I6 s6 vL=>?_⟩;obtain⟨q3',v3,e3,h3,t3⟩:=I6;cases e3;have s26:=s3.trans (s4.trans (s5.trans s6));obtain⟨g1,g2,g3,g4⟩:=go c5 q1 q3 v3 H6 h3 t3 s26;exists A,q3,Z,s26 _ _ hv1,h3,g1;refine⟨Y,Y,Y,Y,Z,Y,Y,Z,ra,row,p-fi,q-fi,rfl,g3,Q,λq4 H7 R7 s7 Fy=>⟨q4,Y,R7,Q,λq5 H8 I8 s8 hq5=>?_⟩⟩;obtain⟨q5',v4,e4,h4,t4⟩:=I8;cases e4;obtain⟨f1,f2⟩:=go2 c5 v4 _ H8 g2 g4 t4 (s7.trans s8);exact⟨B,q5,Z,(s7.trans s8) _ _ g4,h4,f1,K,Y,f2⟩
 ·rintro σ H2 ⟨u1,u2,u3,u4,rfl,pv⟩;have dl:=Rh.len;rw[dl,gQ]at pv;obtain⟨v1,hv1,t1⟩:=pv.a;obtain⟨v2,hv2,t2⟩:=pv.b;have sm:aK H H2:=λa ob e=>pv.k a ob (s1 _ _ (s0 _ _ e)) (az e hA) (az e M4);refine⟨Y,Y,lF,λt ht=>k t A B _ af ?_ ?_ (sm.trans (ak ht _))⟩
  ·exact (Cq hv1 t1).same (ak ht _)
  ·exact (Cq hv2 t2).same (ak ht _)
class inductive FN
 | mk (r:Addr) (rows:cO) (s a b:Int) (sh:Int->List Int) (_:vs=[.ref r,.int s,.int a,.int b]) (_:oF H r rows sh) (_:0<=s) (_:s<rows.length) (_:MW a b (sh s).length) (_:(∀ (es:List Int) (q:Addr) (H':Hp),rows[s.toNat]?=some es->bz H' (.ref q) (aF (bR sh a b es))->aK H H'->H q=none->Q (.ref q) H'))
theorem yj:aH ["rows","sheet","start","stop","views"] ["rows","sheet","start","stop"] (aA uv):=fc
theorem DC:‹(4,29,["rows","sheet","start","stop"],FN)›:=λD=>by
 refine fG D.ZN.F yj λdm A zn s0 H vs Q E hr h=>?_;obtain⟨r,rows,s,p,q,sh,rfl,R,h0,h1,hp,k1⟩:=h;have hu:=gT hr;exists _,(aj (aU (i:=4) yj.nd (aC D.OS (jH D) hr (aa (pv 0) (aa (bM (aa (pv 1) ah)) ah)))) (aj (aT (aC D.X5 (gH D) hr (aa (ie hu (pv 4) (pv 1)) (aa (pv 2) (aa (pv 3) ah))))) (aj (bP (aV dR (pv 2) (pv 3) (bh _)) (au (aN (aC D.Iv (gv D) hr (aa (aP bG (pv 0) (pv 1)) ah)))) bf) (au (aN (aC D.Iv (gv D) hr (aa (aP aX (aC D.WC (Cr D) hr (aa (aP bG (pv 0) (pv 1)) (aa (pv 4) (aa (pv 2) (aa (pv 3) ah))))) ay) ah)))))));refine⟨Y,Y,m6,λL hL=>?_⟩;have s1:aK H (aM H L (.lst [.int s])):=ak hL _;refine⟨r,L,rows,[s],sh,rfl,R.at_.same s1,af,by simp,R.len,R.ents,R.snd,R.rk,(λx hx=>by rw[List.mem_singleton.mp hx];exact⟨h0,h1⟩),R.Pa,R.bd,λS kvs ks H2 hS hv tp sk hn s2 hS0=>?_⟩;have UD:=sk s (by simp);obtain⟨a,ha,Ra⟩:=hv s UD;have z:=jD.k (k:=Sum.inl s) hS;rw[ha]at z;have jU:=s1.trans s2;have shl:=R.bd s h0 h1;have rol:=mz (sh s);obtain⟨es,yf,b,O⟩:=(R.same jU).one h0 h1;refine⟨Y,Y,S,Y,z,Y,Y,a,cK (sh s),p,q,rfl,Ra,Q,by rw[O.tt];exact hp,λH3 s3=>?_⟩
 ·obtain⟨wz,aaJ,b',O3⟩:=(R.same (jU.trans s3)).one h0 h1;have ee:es=wz:=qP (O.he.symm.trans O3.he);subst ee;obtain⟨e1,e2⟩:=j4 es;refine⟨Y,Y,rfl,Y,cW (λc=>?_) (λc=>?_)⟩
  ·have c':p=q:=V.int.inj (of_decide_eq_true c);refine⟨Y,Y,r,K,V,bI.of O3.hr,O3.ix,b',aF es,rfl,O3.it,gR O3.il (by decide),λo H4 I4 s4 ho=>?_⟩;refine k1 es o H4 O.he ?_ (jU.trans (s3.trans s4)) (aY (jU.trans s3) ho);rw[jt _ e2,e1]at I4;unfold bR;rw[if_pos c'];exact I4
  ·have c':¬ p=q:=λz=>c (by rw[z];exact decide_eq_true rfl);have pq:p<q:=by have:=hp.2.1;lia
   refine⟨Y,Y,r,K,V,bI.of O3.hr,O3.ix,Y,Y,Y,b',S,p,q,aF es,kvs,sh,rfl,O3.it,s3 _ _ hS,λn hn=>?_,gR O3.il (by decide),gR O3.rl (by decide),λt L M H4 ht hL4 hM4 s4=>?_⟩
   ·have nx:=sR h0 O.he hn;obtain⟨i,hi⟩:=List.getElem?_of_mem UD;obtain⟨a2,e2,R2⟩:=hv n (List.mem_of_mem_take (tp.dn i s hi n nx));exact⟨a2,e2,R2.same s3⟩
   have nn:Sw sh (aF es):=λn hn=>by
    have nx:=sR h0 O.he hn;obtain⟨n0,n1⟩:=R.snd.Es nx;exact oW R.snd R.rk R.Pa n n0 n1
   have M5:=y9 sh (aF es) 0 e2 nn;have lk:fm ((bX sh 0 (aF es)).flatMap (kD p q)):=vW λd hd=>UE (M5 d hd).1 (M5 d hd).2;have ll:=mC sh (IK p q) (aF es) 0;have oil:=O3.il;have orl:=O3.rl;refine⟨t,K,V,cY.of ht,rfl,L,Y,hL4,Q,λo H5 I5 s5 ho=>?_⟩;refine k1 es o H5 O.he ?_ (jU.trans (s3.trans (s4.trans s5))) (aY (jU.trans (s3.trans s4)) ho);rw[jt _ lk,DA sh pq _ _ e2,e1]at I5;unfold bR;rw[if_neg c'];exact I5
def lY(sh:Int->List Int)(a b to:Int)(es:List Int):List Int:=if a=b then es else aE sh to 0 (kE sh a b 0 es)++tE sh a b 0 es++bE sh to 0 (kE sh a b 0 es)
def Mv(a b to n:Int):Prop:=MW a b n/\0<=to/\to<=n-(b-a)
theorem Pg(sh:Int->List Int)(r:Row):bw sh (cD r)=r:=by
 unfold bw cD;rw[List.flatMap_map]
 induction r with
 | nil=>rfl
 | cons p r ih=>rw[je,ih];rfl
theorem Cs(sh:Int->List Int)(a b:Int):∀ (aL:List aQ) (f:Int),(bw sh ((bX sh f aL).flatMap (kD a b))).length<=(bw sh aL).length+(bw sh aL).length
 | [],_=>by simp[bX,bw]
 | it::r,f=>by
  have ih:=Cs sh a b r (f+ja (cN sh it));have e:bw sh (it::r)=cN sh it++bw sh r:=by unfold bw;rw[je];rfl
  have one:(bw sh (kD a b (it,cN sh it,f,f+ja (cN sh it)))).length<=(cN sh it).length+(cN sh it).length:=by
   unfold kD;split
   ·rw[jk];show (cN sh it).length<=_;lia
   ·split
    ·simp[bw]
    ·rw[Pg];refine gR (jq _) ?_;rw[cP];have:=j3 0 (a-f) (cN sh it) 0;have:=j3 (b-f) (f+ja (cN sh it)-f) (cN sh it) 0;simp only;lia
  rw[bX,je,ef,cP,e,cP];lia
class inductive A7
 | mk (r:Addr) (rows:cO) (s a b to:Int) (sh:Int->List Int) (_:vs=[.ref r,.int s,.int a,.int b,.int to]) (_:oF H r rows sh) (_:0<=s) (_:s<rows.length) (_:Mv a b to (sh s).length) (_:(∀ (es:List Int) (q:Addr) (H':Hp),rows[s.toNat]?=some es->bz H' (.ref q) (aF (lY sh a b to es))->aK H H'->H q=none->Q (.ref q) H'))
theorem wB.mid{i:Int}(h0:-300000<i)(h1:i<300000):wB i:=by
 have a:(300000:Int)<10^60:=by decide
 exact⟨Q,Q⟩
theorem wB.Xb{i:Int}(h:-100000<i/\i<100000):wB i:=wB.mid ∅ ∅
theorem iY:aH ["rows","sheet","start","stop","to","views","rest","left","taken"] ["rows","sheet","start","stop","to"] (aA pK):=fc
theorem Af:‹(4,30,["rows","sheet","start","stop","to"],A7)›:=λD=>by
 refine fG D.ZO.F iY λdm A zn s0 H vs Q E hr h=>?_;obtain⟨r,rows,s,p,q,to,sh,rfl,R,h0,h1,mv,k1⟩:=h;have hu:=gT hr;exists _,(aj (aU (i:=5) iY.nd (aC D.OS (jH D) hr (aa (pv 0) (aa (bM (aa (pv 1) ah)) ah)))) (aj (aT (aC D.X5 (gH D) hr (aa (ie hu (pv 5) (pv 1)) (aa (pv 2) (aa (pv 3) ah))))) (aj (aU (i:=6) iY.nd (bx cQ (fO.vI D.Wv (D.T.oA _ D.Wv.m) (Dv D) hr (aa (ie hu (pv 5) (pv 1)) ah)) (bx cQ (pv 3) (pv 2)))) (aj (bP (mG (vj gn gn ay (pv 4) (pv 6))) (au jw) bf) (aj (bP (aV dR (pv 2) (pv 3) (bh _)) (au (aN (aC D.Iv (gv D) hr (aa (aP bG (pv 0) (pv 1)) ah)))) bf) (aj (mH (aC D.WC (Cr D) hr (aa (aP bG (pv 0) (pv 1)) (aa (pv 5) (aa (pv 2) (aa (pv 3) ah))))) (kY (n:=2) rfl (bT (b8 (i:=7) iY.nd) (bT (b8 (i:=8) iY.nd) gC)))) (au (aN (aC D.WB (vY D) hr (aa (pv 7) (aa (pv 5) (aa (pv 4) (aa (pv 8) ah)))))))))))));refine⟨Y,Y,m6,λL hL=>?_⟩;have s1:aK H (aM H L (.lst [.int s])):=ak hL _;refine⟨r,L,rows,[s],sh,rfl,R.at_.same s1,af,by simp,R.len,R.ents,R.snd,R.rk,(λx hx=>by rw[List.mem_singleton.mp hx];exact⟨h0,h1⟩),R.Pa,R.bd,λS kvs ks H2 hS hv tp sk hn s2 hS0=>?_⟩;have UD:=sk s (by simp);obtain⟨a,ha,Ra⟩:=hv s UD;have z:=jD.k (k:=Sum.inl s) hS;rw[ha]at z;have jU:=s1.trans s2;have shl:=R.bd s h0 h1;have rol:=mz (sh s);obtain⟨es,yf,b,O⟩:=(R.same jU).one h0 h1;refine⟨Y,Y,S,Y,z,Y,Y,a,cK (sh s),p,q,rfl,Ra,Q,by rw[O.tt];exact mv.1,λH3 s3=>?_⟩
 ·have hp:=mv.1;obtain⟨wz,aaJ,b',O3⟩:=(R.same (jU.trans s3)).one h0 h1;have ee:es=wz:=qP (O.he.symm.trans O3.he);subst ee;obtain⟨e1,e2⟩:=j4 es;have z3:=jD.k (k:=Sum.inl s) (s3 _ _ hS);rw[ha]at z3;refine⟨Y,Y,S,Y,z3,a,cK (sh s),rfl,Ra.same s3,Q,λH4 s4=>?_⟩;rw[O.tt];exists Y,Y,Z,Z;exists Y,Z,Y;rw[decide_eq_true mv.2.1];refine cW (λ_=>?_) (λc=>absurd rfl c);exists Y,Z,Y;rw[decide_eq_true mv.2.2];refine gh ?_;have O4:bz H4 (.ref b') (aF es):=O3.it.same s4;have hr4:=s4 _ _ O3.hr;refine⟨Y,Y,rfl,Y,cW (λc=>?_) (λc=>?_)⟩
  ·have c':p=q:=V.int.inj (of_decide_eq_true c);refine⟨Y,Y,r,K,V,bI.of hr4,O3.ix,b',aF es,rfl,O4,gR O3.il (by decide),λo H5 I5 s5 ho=>?_⟩;refine k1 es o H5 O.he ?_ (jU.trans (s3.trans (s4.trans s5))) (aY (jU.trans (s3.trans s4)) ho);rw[jt _ e2,e1]at I5;unfold lY;rw[if_pos c'];exact I5
  ·have c':¬ p=q:=λz=>c (by rw[z];exact decide_eq_true rfl);have pq:p<q:=by have:=hp.2.1;lia
   have aaN:∀ n,aQ.win n∈aF es->∃ a2,cI kvs (Sum.inl n)=some (.ref a2)/\ck H4 a2 (cK (sh n)):=λn hn=>by
    have nx:=sR h0 O.he hn;obtain⟨i,hi⟩:=List.getElem?_of_mem UD;obtain⟨a2,e2,R2⟩:=hv n (List.mem_of_mem_take (tp.dn i s hi n nx));exact⟨a2,e2,(R2.same s3).same s4⟩
   refine⟨Y,Y,r,K,V,bI.of hr4,O3.ix,Y,Y,Y,b',S,p,q,aF es,kvs,sh,rfl,O4,s4 _ _ (s3 _ _ hS),aaN,gR O3.il (by decide),gR O3.rl (by decide),λt L M H5 ht hL5 hM5 s5=>?_⟩
   have nn:Sw sh (aF es):=λn hn=>by
    have nx:=sR h0 O.he hn;obtain⟨n0,n1⟩:=R.snd.Es nx;exact oW R.snd R.rk R.Pa n n0 n1
   have M5:=y9 sh (aF es) 0 e2 nn;have lk:fm ((bX sh 0 (aF es)).flatMap (kD p q)):=vW λd hd=>UE (M5 d hd).1 (M5 d hd).2;have tk:fm ((bX sh 0 (aF es)).flatMap (tD p q)):=vW λd hd=>aaM (M5 d hd).1 (M5 d hd).2;have ll:=mC sh (IK p q) (aF es) 0;have tl:=mC sh (Pe p q) (aF es) 0;have lr:=Cs sh p q (aF es) 0;have oil:=O3.il;have orl:=O3.rl;exists t,Y,cY.of ht,rfl,P,rfl,Z;refine⟨Y,Y,Y,Y,L,S,M,to,P,kvs,sh,rfl,hL5,s5 _ _ (s4 _ _ (s3 _ _ hS)),(λn hn=>?_),hM5,lk,tk,(λn hn=>nn n (FL sh hn)),Q,Q,Q,λo H6 I6 s6 ho=>?_⟩
   ·obtain⟨a2,e3,R2⟩:=aaN n (FL sh hn);exact⟨a2,e3,R2.same s5⟩
   refine k1 es o H6 O.he ?_ (jU.trans (s3.trans (s4.trans (s5.trans s6)))) (aY (jU.trans (s3.trans (s4.trans s5))) ho);rw[DA sh pq _ _ e2,FI sh pq _ _ e2,e1]at I6;unfold lY;rw[if_neg c'];exact I6
class inductive Sz
 | mk (r:Addr) (rows:cO) (s:Int) (sh:Int->List Int) (_:vs=[.ref r,.int s]) (_:oF H r rows sh) (_:0<=s) (_:s<rows.length) (_ :
 ∀ (o:Addr) (H':Hp),bz H' (.ref o) (aF (sh s))->aK H H'->H o=none->Q (.ref o) H')
theorem A8:aH ["rows","sheet"] ["rows","sheet"] (aA pM):=fc
theorem Ag:‹(5,31,["rows","sheet"],Sz)›:=λD=>by
 refine fG D.ZP.F A8 λdm A zn s0 H vs Q E hr h=>?_;obtain⟨r,rows,s,sh,rfl,R,h0,h1,k⟩:=h;exists _,(au (aN (aC D.Dq (kQ D) hr (aa (fO.vI D.OT (D.T.rJ _ D.OT.m) (FF D) hr (aa (pv 0) (aa (pv 1) ah))) ah))));have shl:=R.bd s h0 h1;have rol:=mz (sh s);refine⟨Y,Y,r,rows,s,sh,rfl,R.at_,R.len,R.ents,R.snd,R.rk,h0,h1,R.Pa,R.bd,λo H1 R1 s1 ho=>?_⟩;refine⟨o,cK (sh s),rfl,R1,Q,λq H2 I2 s2 hq=>k q H2 ?_ (s1.trans s2) (aY s1 hq)⟩;rw[zD _ (oU _),gA,Mp (oW R.snd R.rk R.Pa s h0 h1)]at I2;exact I2
def nF(aI:Row)(es:List Int):List Int:=es.filter λe=>decide (e<0) || !Dl aI e
theorem yk(aI:Row)(a b:List Int):nF aI (a++b)=nF aI a++nF aI b:=by unfold nF;rw[List.filter_append]
theorem SD(aI:Row){es:List Int}(h:∀ e∈es,0<=e):nF aI es=iM aI es:=by
 unfold nF iM;refine List.filter_congr λe he=>?_;have:=h e he;rw[decide_eq_false ∅,Bool.false_or]
theorem Ph(aI:Row){n:Int}(h:0<=n):nF aI [-1-n]=[-1-n]:=by
 unfold nF;rw[List.filter_cons_of_pos (by rw[decide_eq_true ∅];rfl)];rfl
def IL(aI:Row)(aL lG:List aQ):Prop:=cZ lG=nF aI (cZ aL)/\fm lG
theorem IL.win{aI:Row}{aL lG:List aQ}(h:IL aI aL lG){n:Int}(n0:0<=n):IL aI (aL++[.win n]) (lG++[.win n]):=by
 refine⟨?_,h.2.append (fm.one n0)⟩;rw[dh,dh,yk,h.1,iX];show _++[-1-n]=_++nF aI [-1-n];rw[Ph aI n0]
theorem IL.aI{aI L:Row}{aL lG:List aQ}(h:IL aI aL lG){a b:Int}(a0:0<=a)(ok:Ok L)(sp:bu L=iM aI (fN (a,b)))(lo:∀ p∈L,a<=p.1):IL aI (aL++[.aI a b]) (lG++cD (bZ L)):=by
 refine⟨?_,h.2.append (rL (mq λp hp=>⟨by have:=lo p hp;lia,ok p hp⟩))⟩;rw[dh,dh,yk,h.1,iX,ng,jo L ok,sp];congr 1;show iM aI (fN (a,b))=nF aI (run a (b-a).toNat);rw[SD aI λe he=>by have:=(yX.mp he).1;lia];rfl
class inductive Pj
 | mk (r k:Addr) (rows:cO) (s:Int) (sh:Int->List Int) (aI:Row) (_:vs=[.ref r,.int s,.ref k]) (_:oF H r rows sh) (_:0<=s) (_:s<rows.length) (_:ck H k aI) (_:aI.length<3) (_:Ok aI) (_ :
 ∀ (es:List Int) (o:Addr) (H':Hp),rows[s.toNat]?=some es->bz H' (.ref o) (aF (nF aI es))->aK H H'->H o=none->Q (.ref o) H')
theorem ir:aH ["rows","sheet","ink","holes","told","item"] ["rows","sheet","ink"] (aA nZ):=fc
theorem yD:‹(3,32,["rows","sheet","ink"],Pj)›:=λD=>by
 refine fG D.ZQ.F ir λdm A zn s0 H vs Q E hr h=>?_;obtain⟨r,kk,rows,s,sh,aI,rfl,R,h0,h1,KI,kl,ok,k⟩:=h;exists _,(aj (aU (i:=3) ir.nd (aC D.ZF (LY D) hr (aa (pv 2) ah))) (aj (aU (i:=4) ir.nd (bM ah)) (aj (dN PassesOwn.never rfl (cF (aP bG (pv 0) (pv 1))) (b8 (i:=5) ir.nd) (au (bP (aV dR (aP aX (pv 5) ay) bH (bh _)) (au (aT (dX qC jX jY bU (pv 4) (aa (pv 5) ah)))) (au (qU (i:=4) ir.nd rfl (Or.inl rfl) (aC D.Dq (kQ D) hr (aa (aC D.ZH (Dw D) hr (aa (aP aX (pv 5) ay) (aa (aP aX (pv 5) ay) (aa (pv 3) ah)))) ah)) uL))))) (au (aN (aC D.Iv (gv D) hr (aa (pv 4) ah)))))));refine⟨Y,kk,aI,rfl,KI,kl,ok,λS bK H1 RS Fx mem hll s1 hS=>?_⟩;refine⟨iG,λq hq=>?_⟩;have s2:aK H1 (aM H1 q (.lst [])):=ak hq _;have jU:=s1.trans s2;obtain⟨es,yf,b,O⟩:=(R.same jU).one h0 h1;obtain⟨b',IA,eb,hb,rE⟩:=id O.it;cases eb;obtain⟨e1,e2⟩:=j4 es;have il:=O.il
 have nSq:S≠q:=by
  obtain⟨_,hx,_⟩:=id RS;exact az hx hq
 have VZ:=aY s1 hq;refine⟨Y,Y,r,K,V,bI.of O.hr,O.ix,b,rfl,⟨_,bI.of hb⟩,dH (K:=K) (a:=b) (xs:=IA) (λi σ H3=>∃ (u:Option V) (vs:List V) (lG:List aQ),σ=[some (.ref r),some (.int s),some (.ref kk),some (.ref S),some (.ref q),u]/\H3 q=some (.lst vs)/\cu (cG H3) vs lG/\IL aI ((aF es).take i) lG/\lG.length<=65*i/\aK H1 H3) ⟨none,[],[],rfl,af,.nil,⟨rfl,λi hi=>by cases hi⟩,by simp,s2⟩ (λi σ H3 _ ⟨K,K,P,s3⟩=>?_) ?_ ?_⟩
 ·obtain⟨_,_,b2,O2⟩:=(R.same (s1.trans s3)).one h0 h1
  have eb:b2=b:=by
   have jP:=R.at_;obtain⟨w,hw,_⟩:=jP;have x1:=jU _ _ hw;have x2:=(s1.trans s3) _ _ hw;rw[O.hr]at x1;rw[O2.hr]at x2;cases x1;cases x2;have:=O.ix.symm.trans O2.ix;cases this;rfl
  obtain⟨bb,iv2,e3,QC,_⟩:=id O2.it;cases e3;rw[eb]at QC
  have nbq:b≠q:=by
   obtain⟨w,hw,tw⟩:=R.at_;have x1:=jU _ _ hw;rw[O.hr]at x1;cases x1;obtain⟨vi,A5,hI⟩:=tw.get' (i:=s.toNat) (b:=aF es) (by rw[fP,O.he];rfl);have z:=dc A5;rw[show ((s.toNat:Nat):Int)=s by lia,O.ix]at z;cases z;obtain⟨b3,_,e4,Uo,_⟩:=hI;cases e4;exact az Uo VZ
  have Et:H1 b=some (.lst IA):=by rw[aJ nbq]at hb;exact hb
  exact bI.of (s3 _ _ Et)
 ·rintro i x σ H3 hi ⟨u,vs,lG,rfl,h3,t3,lf,tl,s3⟩;obtain⟨it,ei,hiv⟩:=rE.get hi
  have aeC:∀ v it,cG (aM H1 q (.lst [])) v it->cG H1 v it:=λv it ⟨a,e,h⟩=>⟨a,e,by
   rw[aJ (λz=>by rw[z,af]at h;cases h)]at h
   exact h⟩
  obtain⟨a,rfl,ha⟩:=(aeC x it hiv).same s3;have io:=e2 it (pA ei);have vl:=t3.len
  have i1:i<(aF es).length:=by
   rcases Nat.lt_or_ge i (aF es).length with z|z
   ·exact z
   ·rw[List.getElem?_eq_none z]at ei;cases ei
  have st:=take_snoc ei
  cases it with
  | win n =>
   refine⟨Y,a,K,V,cY.of ha,V,Y,cW (λ_=>?_) (λz=>absurd (by decide) z)⟩;refine⟨Y,.inl ⟨rfl,_,bI.of h3⟩,Y,q,Z,h3,aR ∅,?_⟩;refine⟨P,lG++[.win n],rfl,af,cu.snoc (t3.mono λv j h=>h.keep h3 (aG q _ _)) (cG.keep h3 (aG q _ _) ⟨a,rfl,ha⟩),by rw[st];exact lf.win io,by rw[cP,qD];lia,bS hq s3 (aG q _ _)⟩
  | aI p p2 =>
   refine⟨Y,a,K,V,cY.of ha,V,Y,cW (λz=>absurd z (by decide)) (λ_=>?_)⟩;obtain⟨p0,pp⟩:=io;refine⟨Y,Y,a,K,V,cY.of ha,rfl,Y,a,K,V,cY.of ha,rfl,Y,S,bK,p,p2,rfl,RS.same s3,Fx,Q,Q,λw1 L H4 RL okL spL loL lL s4 hw1=>?_⟩;refine⟨w1,L,rfl,RL,Q,λw2 H5 I5 s5 hw2=>?_⟩;obtain⟨w2',v2,e5,h5,t5⟩:=I5;cases e5;have h35:=s5 _ _ (s4 _ _ h3);have z5:=t5.len
   have l5:(cD (bZ L)).length<=64:=by
    unfold cD;rw[cz];have:=jq L;lia
   refine⟨q,w2,Z,h35,h5,gM (aR ∅),?_⟩;refine⟨P,lG++cD (bZ L),rfl,af,?_,?_,by rw[cP];lia,bS hq (s3.trans (s4.trans s5)) (aG q _ _)⟩
   ·exact (t3.mono λv j h=>((h.same s4).same s5).keep h35 (aG q _ _)).app (t5.mono λv j h=>h.keep h35 (aG q _ _))
   ·rw[st];refine lf.aI p0 okL ?_ loL;rw[spL];exact rG λx _=>mem x
 ·rintro σ H3 ⟨u,vs,lG,rfl,h3,t3,lf,tl,s3⟩;rw[rE.len,gQ]at lf;rw[rE.len]at tl;refine⟨Y,q,lG,rfl,⟨q,vs,rfl,h3,t3⟩,Q,λo H4 I4 s4 ho=>?_⟩;rw[jt _ lf.2,lf.1,e1]at I4;exact k es o H4 O.he I4 (s1.trans (s3.trans s4)) (aY (s1.trans s3) ho)
abbrev lI(ws:iT):HO:=.lst (ws.map λw=>V.str (fF w))
abbrev SE:List (Str × Int):=[(Str.ofString "fresh",0),(Str.ofString "cut",3),(Str.ofString "move",4),(Str.ofString "quote",5),(Str.ofString "window",3),(Str.ofString "fix",1),(Str.ofString "back",2),(Str.ofString "fork",2),(Str.ofString "untie",1),(Str.ofString "read",1)]
abbrev Yb:List (Str × Int):=[(Str.ofString "put",2),(Str.ofString "strike",0),(Str.ofString "blot",1),(Str.ofString "lift",1)]
def lQ(D:List (Str × Int))(n:List Nat):Option Int:=(D.find? λp=>decide (fF n=p.1)).map (·.2)
theorem Ah{D:List (Str × Int)}{n:List Nat}{i:Int}(h:lQ D n=some i):(D.find? λp=>decide (fF n=p.1))=some (fF n,i):=by
 unfold lQ at h;obtain⟨⟨x,j⟩,e,rfl⟩:=Option.map_eq_some_iff.mp h;have z:=List.find?_some e;have:fF n=x:=of_decide_eq_true z;rw[e,this]
abbrev FO:List Nat:=[116,105,101]
inductive jK where
 | A9 (h:Int) (t:List Nat)
 | plain (n:List Nat) (ns:List Int)
 | qu (n:List Nat) (ns:List Int) (r:Row)
def jK.At(H:Hp)(p:Addr):jK->Prop
 | .A9 h t=>H p=some (.tup [.str "pour",.int h,.str (fF t)])
 | .plain n ns=>H p=some (.tup (.str (fF n)::ns.map V.int))
 | .qu n ns r=>∃ q,H p=some (.tup (.str (fF n)::ns.map V.int++[.ref q]))/\ck H q r
def qI(n:Int):Prop:=0<=n/\n<10^60
def Mt(r:Row):Prop:=r.length<=29/\∀ p∈r,qI p.1/\qI p.2
def jK.Ok:jK->Prop
 | .A9 h t=>qI h/\t.length<=200
 | .plain n ns=>lQ SE n=some (ns.length:Int)/\∀ x∈ns,qI x
 | .qu n ns r=>lQ Yb n=some (ns.length:Int)/\(∀ x∈ns,qI x)/\Mt r
abbrev vZ(p:Int × Int):List Nat:=iR.dg p.1++45::iR.dg p.2
theorem Mu{p:Int × Int}(h:qI p.1/\qI p.2):(vZ p).length<=121:=by
 rw[cP,lR];have a:=iR.Iq h.1.1 h.1.2;have b:=iR.Iq h.2.1 h.2.2;lia
theorem DE{n:Int}(h:qI n):n.natAbs.log2<1920:=by
 obtain⟨h0,h1⟩:=h;by_cases z:n.natAbs=0
 ·rw[z];decide
 ·rw[Nat.log2_lt z];have a:n.natAbs<10^60:=by lia
  exact qN a (gR (show (10:Nat)^60<=2^200 by decide) (Nat.pow_le_pow_right (by decide) (by decide)))
inductive iu where
 | num (x:Int)
 | tx (t:List Nat)
 | row (r:Row)
def iu.At(H:Hp)(v:V):iu->Prop
 | .num x=>v=.int x
 | .tx t=>v=.str (fF t)
 | .row r=>∃ q,v=.ref q/\ck H q r
def iu.Ok:iu->Prop
 | .num x=>qI x
 | .tx t=>t.length<=200
 | .row r=>Mt r
abbrev FP(r:Row):List Nat:=r.flatMap λp=>32::vZ p
def iu.line:iu->List Nat
 | .num x=>32::iR.dg x
 | .tx t=>32::t
 | .row r=>FP r
theorem Pk{r:Row}(h:Mt r):(FP r).length<=4000:=by
 have key:∀ l:Row,(∀ p∈l,qI p.1/\qI p.2)->(FP l).length<=122*l.length:=by
  intro l
  induction l with
  | nil=>intro _;exact fH _
  | cons p l ih =>
   intro g;have z:=ih λq hq=>g q (mE _ hq);have z2:=Mu (g p List.mem_cons_self);show ((32::vZ p)++FP l).length<=_;rw[cP,lR,lR];lia
 have:=key r h.2;have:=h.1;lia
theorem iu.FQ{p:iu}(h:p.Ok):p.line.length<=4000:=by
 cases p with
 | num x=>have:=iR.Iq h.1 h.2;show (32::iR.dg x).length<=_;rw[lR];lia
 | tx t=>have h':t.length<=200:=h;show (32::t).length<=_;rw[lR];lia
 | row r=>exact Pk h
def jK.nm:jK->List Nat
 | .A9 _ _=>[112,111,117,114]
 | .plain n _=>n
 | .qu n _ _=>n
def jK.parts:jK->List iu
 | .A9 h t=>[.num h,.tx t]
 | .plain _ ns=>ns.map .num
 | .qu _ ns r=>ns.map .num++[.row r]
def jK.line:jK->List Nat
 | d=>d.nm++d.parts.flatMap iu.line
theorem Pn{H:Hp}{p:Addr}{d:jK}(h:d.At H p):∃ vs,H p=some (.tup (.str (fF d.nm)::vs))/\cu (λv q=>iu.At H v q) vs d.parts:=by
 have nums:∀ ns:List Int,cu (λv q=>iu.At H v q) (ns.map V.int) (ns.map iu.num):=λns=>by
  induction ns with
  | nil=>exact .nil
  | cons x ns ih=>exact .cons rfl ih
 cases d with
 | A9 x t=>exact⟨_,by rw[h,show Str.ofString "pour"=fF [112,111,117,114] by decide +kernel];rfl,.cons rfl (.cons rfl .nil)⟩
 | plain n ns=>exact⟨_,h,nums ns⟩
 | qu n ns r =>
  obtain⟨q,e,z⟩:=h;exact⟨ns.map V.int++[.ref q],by rw[e];rfl,(nums ns).snoc ⟨q,rfl,z⟩⟩
theorem Mw{d:jK}(h:d.Ok):∀ q∈d.parts,q.Ok:=by
 cases d with
 | A9 x t =>
  intro q hq;rcases List.mem_cons.mp hq with z|z
  ·rw[z];exact h.1
  ·rw[List.mem_singleton.mp z];exact h.2
 | plain n ns =>
  intro q hq;obtain⟨x,hx,rfl⟩:=List.mem_map.mp hq;exact h.2 x hx
 | qu n ns r =>
  intro q hq;rcases List.mem_append.mp hq with z|z
  ·obtain⟨x,hx,rfl⟩:=List.mem_map.mp z;exact h.2.1 x hx
  ·rw[List.mem_singleton.mp z];exact h.2.2
theorem FT{H:Hp}:∀ {vs:List V} {ps:List iu} {i:Nat} {v:V},cu (λv q=>iu.At H v q) vs ps->vs[i]?=some v->∃ q,ps[i]?=some q/\q.At H v
 | _,_,_,_,.nil,h=>by simp at h
 | _,_,0,_,.cons o t,h=>by
  have e:=qP h;subst e;exact⟨Y,o⟩
 | _,_,i+1,_,.cons o t,h=>by
  obtain⟨q,e,z⟩:=FT (i:=i) t (by simpa using h);exact⟨q,by simpa using e,z⟩
theorem Ct{ps:List iu}(h:∀ q∈ps,q.Ok):(ps.flatMap iu.line).length<=4000*ps.length:=by
 induction ps with
 | nil=>exact Nat.zero_le _
 | cons p ps ih =>
  have z:=ih λq hq=>h q (mE _ hq);have z2:=iu.FQ (h p List.mem_cons_self);rw[je,cP,lR,Nat.mul_add,Nat.mul_one];lia
theorem SG(n:List Nat):∀ ws:iT,iR.jn 32 (n::ws)=n++ws.flatMap (λw=>32::w):=by
 intro ws
 induction ws generalizing n with
 | nil=>show n=_;simp
 | cons w ws ih =>
  show n++32::iR.jn 32 (w::ws)=_;rw[ih w,je];simp
theorem FU{D:List (Str × Int)}{n:List Nat}{k:Int}(hD:∀ p∈D,32∉p.1.cps.toList/\p.1.cps.toList≠[112,111,117,114]/\p.1.cps.toList≠FO/\p.1.cps.toList.length<=10)(h:lQ D n=some k):32∉n/\n≠[112,111,117,114]/\n≠FO/\n.length<=10:=by
 have z:=hD _ (List.mem_of_find?_eq_some (Ah h));have e:(fF n).cps.toList=n:=iR.vH n;rw[show ((fF n,k):Str × Int).1=fF n from rfl,e]at z;exact z
theorem Po{n:List Nat}{k:Int}(h:lQ SE n=some k):32∉n/\n≠[112,111,117,114]/\n≠FO/\n.length<=10:=FU nofun h
theorem Pp{n:List Nat}{k:Int}(h:lQ Yb n=some k):32∉n/\n≠[112,111,117,114]/\n≠FO/\n.length<=10:=FU nofun h
theorem Pq(r:Row):FP r=(r.map vZ).flatMap λw=>32::w:=by
 induction r with
 | nil=>rfl
 | cons x r ih=>rw[jv,je,← ih];rfl
theorem jK.At.same{H H':Hp}{p:Addr}{d:jK}(h:d.At H p)(s:aK H H'):d.At H' p:=by
 cases d with
 | A9 x t=>exact s _ _ h
 | plain n ns=>exact s _ _ h
 | qu n ns r=>obtain⟨q,e,r1⟩:=h;exact⟨q,s _ _ e,r1.same s⟩
theorem Mx{n:List Nat}{k:Int}(h:lQ SE n=some k):k<=5:=by
 have z:∀ p∈SE,p.2<=5:=by decide +kernel
 exact z _ (List.mem_of_find?_eq_some (Ah h))
theorem My{n:List Nat}{k:Int}(h:lQ Yb n=some k):k<=5:=by
 have z:∀ p∈Yb,p.2<=5:=by decide +kernel
 exact z _ (List.mem_of_find?_eq_some (Ah h))
theorem IM{d:jK}(ok:d.Ok):d.nm≠FO/\d.nm.length<=10/\d.parts.length<=10:=by
 cases d with
 | A9 x t=>exact⟨by show [112,111,117,114]≠FO;decide,by show 4<=10;decide,by show 2<=10;decide⟩
 | plain n ns =>
  obtain⟨_,_,f3,f4⟩:=Po ok.1;have:=Mx ok.1;exact⟨f3,f4,by show (ns.map iu.num).length<=10;rw[cz];lia⟩
 | qu n ns r =>
  obtain⟨_,_,f3,f4⟩:=Pp ok.1;have:=My ok.1;exact⟨f3,f4,by show (ns.map iu.num++[iu.row r]).length<=10;rw[cP,cz];show ns.length+1<=10;lia⟩
class inductive Ai
 | mk (q:Addr) (r:Row) (_:vs=[.ref q]) (_:ck H q r) (_:Mt r) (_: ∀ (a:Addr) (H':Hp),H' a=some (lI (r.map vZ))->aK H H'->H a=none->Q (.ref a) H')
theorem FW:aH ["row"] ["row"] (aA pN):=fc
theorem Pr{a b:Int}(ha:0<=a)(hb:0<=b):(Str.empty++Str.ofString (toString a)++Str.ofString "-"++Str.ofString (toString b))=fF (vZ (a,b)):=by
 rw[iR.yY ha,iR.yY hb,show Str.ofString "-"=fF [45] by decide +kernel,show Str.empty=fF [] from rfl,Dm,Dm,Dm];simp
theorem DF:‹(1,33,["row"],Ai)›:=λD=>by
 specialize fG D.RU.F FW;obtain⟨q,r,rfl,⟨as,hq,pa⟩,⟨lr,fr⟩,k⟩:=h;refine⟨_,(au (aN (gZ (N:=["start","stop"]) (nL (sc:=aA pN) (NX:=["row"]) (jx:=[none,none]) rfl rfl rfl nofun nofun rfl nofun rfl nofun) rfl (cF (pv 0)) (λ_ _ _ _ _ _=>(yV (n:=2) rfl (bT (b8 (i:=0) (show List.Nodup (["start","stop"]:List Str) by decide +kernel)) (bT (b8 (i:=1) (show List.Nodup (["start","stop"]:List Str) by decide +kernel)) gC)))) (λ_ _ _ _ _ _=>jb) (λ_ _ _ _ _ _=>(iR.OP (iR.Ko (pv 0) (iR.RP (iR.Ko (pv 1) iR.RO)))))))),?_⟩;have lp:=Paired.length pa;refine⟨Y,q,rfl,⟨_,bI.of hq⟩,λacc cT=>gE (K:=K) (a:=q) (xs:=as.map V.ref) (λi σ H2=>∃ u0 u1:Option V,σ=[u0,u1]/\H2 acc=some (lI ((r.take i).map vZ))/\aK H H2) ⟨none,none,rfl,af,ak cT _⟩ (by rintro i σ H2 _ ⟨_,_,_,_,s2⟩;exact bI.of (s2 _ _ hq)) ?_ ?_⟩
 ·rintro i y σ H2 hi ⟨u0,u1,rfl,h2,s2⟩;rw[fP]at hi;obtain⟨a,ei,rfl⟩:=Option.map_eq_some_iff.mp hi;obtain⟨p,ep,hp⟩:=pa.get ei;have fp:=fr p (pA ep);have il:=(List.getElem?_eq_some_iff.mp ep).1;exists a,Y,cY.of (s2 _ _ hp),rfl,P,rfl,Z;refine⟨Y,Y,DE fp.1,Y,Y,DE fp.2,_,h2,aR (by rw[cz,cz,gB];lia),P,rfl,?_,bS cT s2 (aG acc _ _)⟩;rw[af,take_snoc ep,gy,jv,List.map_nil,Pr fp.1.1 fp.2.1];show some (HO.lst _)=some (HO.lst _);rw[gy];rfl
 ·rintro σ H2 ⟨u0,u1,rfl,h2,s2⟩;rw[cz,lp,gQ]at h2;exact k acc H2 h2 s2 cT
def iu.words:iu->iT
 | .num x=>[iR.dg x]
 | .tx t=>[t]
 | .row r=>r.map vZ
theorem uS(ps:List iu):(ps.flatMap iu.words).flatMap (λw=>32::w)=ps.flatMap iu.line:=by
 induction ps with
 | nil=>rfl
 | cons p ps ih =>
  rw[je,je,List.flatMap_append,ih];congr 1
  cases p with
  | num x=>show (32::iR.dg x)++[]=32::iR.dg x;rw[gK]
  | tx t=>show (32::t)++[]=32::t;rw[gK]
  | row r=>exact (Pq r).symm
class inductive Pu
 | mk (p:Addr) (d:jK) (_:vs=[.ref p]) (_:d.At H p) (_:d.Ok) (_:d.nm≠FO/\d.nm.length<=10/\d.parts.length<=10) (_: ∀ H',aK H H'->Q (.str (fF d.line)) H')
theorem lZ:aH ["deed","words","thing"] ["deed"] (aA qZ):=fc
theorem FY(W:iT):(W.map List.length).sum+W.length=(W.flatMap λw=>32::w).length:=by
 induction W with
 | nil=>rfl
 | cons x W ih =>
  rw[jv,List.sum_cons,lR,je,cP,lR,← ih];lia
theorem Mz(a b:iT):(a.map λw=>V.str (fF w))++(b.map λw=>V.str (fF w))=(a++b).map λw=>V.str (fF w):=List.map_append.symm
theorem Ba:‹(2,34,["deed"],Pu)›:=λD=>by
 have uT:bq P w K mg zt cM 1 _ _ ["row"] Ai:=DF D;specialize fG D.ZR.F lZ;obtain⟨p,d,rfl,hd,ok,nn,k⟩:=h;exists _,(aj (bP (aV dR (aP aX (pv 0) ay) bH (bh _)) (au (aN (dX PySem.F.plainAttrs_str PySem.F.slot_str_join PySem.F.type_str_join iR.Fj bH (aa (bx jh (bx jh (bx jh (bM (aa bH ah)) (aC D.RU uT hr (aa (aP aX (pv 0) ay) ah))) (bM (aa bH ah))) (aC D.RU uT hr (aa (aP aX (pv 0) ay) ah))) ah)))) bf) (aj (aU (i:=1) lZ.nd (bM (aa (aP aX (pv 0) ay) ah))) (aj (dN PassesOwn.never rfl (Vu (iV VD (pv 0) (i7 ay) nH)) (b8 (i:=2) lZ.nd) (au (qU (i:=1) lZ.nd rfl (Or.inl rfl) (Nj (mF (b9 dY rfl D.T.dz yu (aa (pv 2) (aa (qo rfl D.T.gu oM) ah)))) (aC D.RU uT hr (aa (pv 2) ah)) (bM (aa (Fl.Zy (pv 2)) ah))) uL))) (au (aN (dX PySem.F.plainAttrs_str PySem.F.slot_str_join PySem.F.type_str_join iR.Fj bH (aa (pv 1) ah)))))));have tt:Str.ofString "tie"=fF FO:=by decide +kernel
 have kil:kitOne K (.type "int") (.type "list")=some false:=by kernel_rfl
 have ksl:kitOne K (.type "str") (.type "list")=some false:=by kernel_rfl
 obtain⟨vs,hp,al⟩:=Pn hd;obtain⟨n1,n2,n3⟩:=nn;have pk:=Mw ok;have lv:=al.len;have ln:d.line=d.nm++d.parts.flatMap iu.line:=rfl;exists Y,p,K,V,cY.of hp,uQ;refine⟨rfl,Y,cW (λc=>absurd (of_decide_eq_true c) (by rw[tt];intro z;exact n1 (RN (V.str.inj z)))) (λ_=>?_)⟩;refine⟨Y,p,K,V,cY.of hp,uQ,m6,λwl fwl=>?_⟩;have s0:=ak fwl (.lst [.str (fF d.nm)]);have h0:(aM H wl (.lst [.str (fF d.nm)])) wl=some (lI [d.nm]):=af;refine⟨Y,Y,p,Y,cY.of (s0 _ _ hp),?_,λtp htp=>?_⟩
 ·rintro⟨z,_⟩;have e:HT.i6 (V.str (fF d.nm)::vs).length 0 (some 1)=min 1 (V.str (fF d.nm)::vs).length:=HT.JQ _ _ 1;have z':HT.i6 (V.str (fF d.nm)::vs).length 0 (some 1)=0:=z;rw[e,lR]at z';lia
 have ec:kC (V.str (fF d.nm)::vs) (some 1) none=vs:=by
  unfold kC;have e:HT.i6 (V.str (fF d.nm)::vs).length 0 (some 1)=1:=(HT.JQ _ _ 1).trans (by rw[lR];lia);have e2:HT.i6 (V.str (fF d.nm)::vs).length (V.str (fF d.nm)::vs).length none=vs.length+1:=rfl;rw[e,e2];show vs.take (vs.length+1-1)=vs;exact uc ∅
 rw[ec];change (aM H wl (.lst [.str (fF d.nm)])) tp=none at htp;have s1':=ak htp (.tup vs);have h1:(aM (aM H wl (.lst [.str (fF d.nm)])) tp (.tup vs)) tp=some (.tup vs):=af;have h1w:=s1' _ _ h0;have s1:=s0.trans s1';have nwt:wl≠tp:=az h0 htp;generalize aM (aM H wl (.lst [.str (fF d.nm)])) tp (.tup vs)=H1 at s1 h1 h1w;refine⟨tp,rfl,⟨_,cY.of h1⟩,QT (K:=K) (a:=tp) (xs:=vs) (λi σ H2=>∃ u:Option V,σ=[some (.ref p),some (.ref wl),u]/\H2 wl=some (lI (d.nm::(d.parts.take i).flatMap iu.words))/\H2 tp=some (.tup vs)/\aK H H2) ⟨none,rfl,by rw[List.take_zero,List.flatMap_nil];exact h1w,h1,s1⟩ (by rintro i σ H2 _ ⟨_,_,_,h2,_⟩;exact cY.of h2) ?_ ?_⟩
 ·rintro i v σ H2 hi ⟨u,rfl,h2,h2t,s2⟩;obtain⟨q,eq,hq⟩:=FT al hi;have qk:=pk q (pA eq);have ql:=iu.FQ qk;have fl:=Ct (ps:=d.parts.take i) λq hq=>pk q (List.mem_of_mem_take hq);have ft:(d.parts.take i).length<=10:=by rw[gB];lia
  have fs:=FY ((d.parts.take i).flatMap iu.words);rw[uS]at fs
  have nx:d.nm::(d.parts.take (i+1)).flatMap iu.words=(d.nm::(d.parts.take i).flatMap iu.words)++q.words:=by
   rw[take_snoc eq,List.flatMap_append,je,List.flatMap_nil,gK,List.cons_append]
  have lB:(d.nm::(d.parts.take i).flatMap iu.words).length<=50000:=by rw[lR];lia
  have lq:q.words.length<=29:=by
   cases q with
   | num x=>show 1<=29;decide
   | tx t=>show 1<=29;decide
   | row r=>show (r.map vZ).length<=29;rw[cz];exact qk.1
  have jN:∀ (t:Addr) (H3:Hp) (v':V),aK H2 H3->H2 t=none->H3 t=some (lI q.words)->∃ (l b:Addr) (xs zs:List V),V.ref wl=.ref l/\V.ref t=.ref b/\H3 l=some (.lst xs)/\H3 b=some (.lst zs)/\xs.length+zs.length<=sizeLine/\∃ u:Option V,([some (.ref p),some (.ref wl),some v']:List (Option V)).set 1 (some (.ref l))=[some (.ref p),some (.ref wl),u]/\(aM H3 l (.lst (xs++zs))) wl=some (lI (d.nm::(d.parts.take (i+1)).flatMap iu.words))/\(aM H3 l (.lst (xs++zs))) tp=some (.tup vs)/\aK H (aM H3 l (.lst (xs++zs))):=by
   intro t H3 v' s3 Kd h3;exists wl,t,Z,s3 _ _ h2,h3,gM (aR (by rw[cz,cz];lia)),Y,?_,?_
   ·rw[Mz,af,nx]
   ·rw[aJ nwt.symm];exact s3 _ _ h2t
   ·exact bS fwl (s2.trans s3) (aG wl _ _)
  cases q with
  | num x =>
   cases (show v=.int x from hq);refine⟨Y,Y,_,"list",P,rfl,.int x,kil,Y,gh ⟨Y,.inl ⟨x,rfl,DE qk,?_⟩⟩⟩;rw[iR.yY qk.1];exact⟨m6,λt Kd=>jN t _ (.int x) (ak Kd _) Kd af⟩
  | tx t =>
   cases (show v=.str (fF t) from hq);have lt:t.length<=200:=qk;refine⟨Y,Y,_,"list",P,rfl,.str _,ksl,Y,gh ⟨Y,.inr ⟨t,rfl,Q,?_⟩⟩⟩;exact⟨m6,λt' Kd=>jN t' _ (.str (fF t)) (ak Kd _) Kd af⟩
  | row r =>
   obtain⟨qa,rfl,hr⟩:=hq;have Fv:=hr.same s2;obtain⟨as,has,_⟩:=id Fv;refine⟨Y,Y,_,"list",P,rfl,.lst has,Zk K,Y,jA ?_⟩;exact⟨Y,qa,r,rfl,Fv,qk,λt H3 h3 s3 Kd=>jN t H3 (.ref qa) s3 Kd h3⟩
 ·rintro σ H2 ⟨u,rfl,h2,h2t,s2⟩;rw[lv,gQ]at h2;have fs:=FY (d.parts.flatMap iu.words);rw[uS]at fs;have fl:=Ct (ps:=d.parts) pk;exists rfl,Y,wl,32,_,by rw[show Str.ofString " "=⟨#[32]⟩ by decide +kernel],rfl,h2,?_
  ·rw[jv,List.sum_cons,lR];lia
  rw[SG,uS,← ln];exact k H2 s2
structure aaO(S:Addr->Prop)(H:Hp)(st op r:Addr)(aL:List aQ):Prop where
 own:S r
 ne:r≠st/\r≠op
 at':bz H (.ref r) aL
def IP(S:Addr->Prop)(H:Hp)(st op a:Addr)(rows:List (List aQ)):Prop:=S a/\a≠st/\a≠op/\∃ rs:List Addr,H a=some (.lst (rs.map V.ref))/\cu (aaO S H st op) rs rows
abbrev lJ:=List (List (List aQ))
structure Opn(bL:lJ)(ops:List Int):Prop where
 Cu:∃ last,bL.getLast?=some last/\ops.length=last.length
 fit:∀ (s:Nat) (o:Int),ops[s]?=some o->0<=o/\o<bL.length/\∀ (m:Nat) (rows:List (List aQ)),bL[m]?=some rows->(o<=m↔s<rows.length)
 less:∀ (m:Nat) (rows:List (List aQ)),bL[m]?=some rows->rows.length<=ops.length
structure Sh(C:Addr)(S:Addr->Prop)(H:Hp)(x d st op:Addr)(bL:lJ)(ops:List Int):Prop where
 sx:S x
 ss:S st
 so:S op
 al:∀ a,S a->∃ ob,H a=some ob
 hx:H x=some (.ins C d [("states",.ref st),("openings",.ref op)])
 hs:∃ as:List Addr,H st=some (.lst (as.map V.ref))/\cu (IP S H st op) as bL
 ho:H op=some (.lst (ops.map V.int))
 ne:st≠op
 QF:Opn bL ops
theorem bz.fr{H H':Hp}{r:Addr}{aL:List aQ}(h:bz H (.ref r) aL)(k:∀ xs,H r=some (.lst xs)->H' r=some (.lst xs))(t:∀ a xs,H a=some (.tup xs)->H' a=some (.tup xs)):bz H' (.ref r) aL:=by
 obtain⟨a,vs,e,h1,h2⟩:=h;cases e;exact⟨r,vs,rfl,k _ h1,h2.mono λv it ⟨b,e,hb⟩=>⟨b,e,t _ _ hb⟩⟩
theorem IP.fr{S S':Addr->Prop}{H H':Hp}{st a:Addr}{rows:List (List aQ)}(h:IP S H st op a rows)(sub:∀ a,S a->S' a)(k:∀ a ob,H a=some ob->S a->a≠st->a≠op->H' a=some ob)(t:∀ a xs,H a=some (.tup xs)->H' a=some (.tup xs)):IP S' H' st op a rows:=by
 obtain⟨sa,n1,n2,rs,hr,al⟩:=h;exact⟨sub _ sa,n1,n2,rs,k _ _ hr sa n1 n2,al.mono λr aL q=>⟨sub _ q.own,q.ne,q.at'.fr (λxs e=>k _ _ e q.own q.ne.1 q.ne.2) t⟩⟩
theorem Sh.fr{S:Addr->Prop}{H H':Hp}{x d st:Addr}{bL:lJ}{ops:List Int}(h:Sh C S H x d st op bL ops)(k:∀ a ob,H a=some ob->S a->H' a=some ob)(t:∀ a xs,H a=some (.tup xs)->H' a=some (.tup xs)):Sh C S H' x d st op bL ops:=by
 obtain⟨sx,ss,so,al,hx,⟨as,hs,a2⟩,ho,ne,QF⟩:=h;refine⟨sx,ss,so,λa z=>?_,k _ _ hx sx,⟨as,k _ _ hs ss,a2.mono λa rows q=>q.fr (λ_ z=>z) (λa ob e z _ _=>k _ _ e z) t⟩,k _ _ ho so,ne,QF⟩;obtain⟨ob,e⟩:=al a z;exact⟨ob,k _ _ e z⟩
theorem Sh.same{S:Addr->Prop}{H H':Hp}{x d st:Addr}{bL:lJ}{ops:List Int}(h:Sh C S H x d st op bL ops)(k:aK H H'):Sh C S H' x d st op bL ops:=h.fr (λa ob e _=>k a ob e) (λa xs e=>k _ _ e)
theorem Sh.keep{S:Addr->Prop}{H H':Hp}{x d st l:Addr}{bL:lJ}{ops:List Int}{ls:List V}(h:Sh C S H x d st op bL ops)(hl:H l=some (.lst ls))(nl:¬ S l)(k:cB l H H'):Sh C S H' x d st op bL ops :=
 h.fr (λa ob e z=>k a ob e (λq=>nl (by rw[← q];exact z))) (λa xs e=>k _ _ e (cV e hl))
theorem Aj:∀ {as bs:List Addr},as.map V.ref=bs.map V.ref->as=bs
 | [],[],_=>rfl
 | [],_::_,h=>by cases h
 | _::_,[],h=>by cases h
 | a::as,b::bs,h=>by
  rw[jv,jv]at h;injection h with h1 h2;cases h1;rw[Aj h2]
theorem Sh.last{S:Addr->Prop}{H:Hp}{x d st:Addr}{bL:lJ}{ops:List Int}(h:Sh C S H x d st op bL ops){as:List Addr}(ha:H st=some (.lst (as.map V.ref))):∃ Ow a,as=Ow++[a]/\∀ last,bL.getLast?=some last->IP S H st op a last:=by
 obtain⟨bs,hb,a2⟩:=h.hs
 have e:as=bs:=by
  rw[ha]at hb;have:=HO.lst.inj (qP hb);exact Aj this
 subst e;obtain⟨last,hl,_⟩:=h.QF.Cu
 obtain⟨p',rfl⟩:∃ p',bL=p'++[last]:=by
  rcases nB bL with rfl|⟨p',l,rfl⟩
  ·cases hl
  ·rw[kX,jR]at hl;cases hl;exact⟨p',kX⟩
 obtain⟨Ow,a,rfl,_,r⟩:=a2.split;refine⟨Ow,a,rfl,λl e=>?_⟩;rw[hl]at e;cases e;exact r
theorem uU(xs:List V){p:Int}(h:0<=p):kC xs none (some p)=xs.take p.toNat:=by
 unfold kC;have e1:HT.i6 xs.length 0 none=0:=rfl
 have e2:HT.i6 xs.length xs.length (some p)=min p.toNat xs.length:=by
  show (if p<0 then (p+(xs.length:Int)).toNat else min p.toNat xs.length)=_;rw[if_neg ∅]
 rw[e1,e2,List.drop_zero,Nat.sub_zero];rcases Nat.le_total p.toNat xs.length with z|z
 ·rw[Nat.min_eq_left z]
 ·rw[Nat.min_eq_right z,uc (fH _),uc z]
theorem xB(xs:List V){p:Int}(h:0<=p):kC xs (some p) none=xs.drop p.toNat:=by
 unfold kC;have e1:HT.i6 xs.length xs.length none=xs.length:=rfl
 have e2:HT.i6 xs.length 0 (some p)=min p.toNat xs.length:=by
  show (if p<0 then (p+(xs.length:Int)).toNat else min p.toNat xs.length)=_;rw[if_neg ∅]
 rw[e1,e2];rcases Nat.le_total p.toNat xs.length with z|z
 ·rw[Nat.min_eq_left z,uc (by rw[qO];lia)]
 ·rw[Nat.min_eq_right z,vg (fH _),vg z];simp
class inductive MA
 | mk (a r:Addr) (rs:List V) (s:Nat) (_:vs=[.ref a,.int (s:Nat),.ref r]) (_:H a=some (.lst rs)) (_:s<=rs.length) (_:rs.length<=1000) (_: ∀ (p:Addr) (H':Hp),H' p=some (.lst (rs.take s++[.ref r]++rs.drop (s+1)))->aK H H'->H p=none->Q (.ref p) H')
class inductive SH(C:Addr)
 | mk (x d:Addr) (_:vs=[.ref x]) (_:H x=some (.ins C d [])) (_: ∀ (st op z:Addr) (H':Hp),Sh C (λa=>a=x\/a=st\/a=op\/a=z) H' x d st op [[]] []->cB x H H'->H st=none->H op=none->H z=none->Q .gm H')
class inductive aaP(C:Addr)
 | mk (x d st op:Addr) (as:List V) (_:vs=[.ref x]) (_:H x=some (.ins C d [("states",.ref st),("openings",.ref op)])) (_:H st=some (.lst as)) (_:Q (.int ((as.length:Nat)-1)) H)
class inductive Xc(C:Addr)
 | mk (S:Addr->Prop) (x d st op:Addr) (bL:lJ) (ops:List Int) (_:vs=[.ref x]) (_:Sh C S H x d st op bL ops) (_:Q (.int (ops.length:Nat)) H)
theorem MB:aH ["state","sheet","items"] ["state","sheet","items"] (aA zy):=fc
theorem xC:aH ["self"] ["self"] (aA ly):=fc
theorem FZ:aH ["self"] ["self"] (aA ux):=fc
theorem DG:aH ["self"] ["self"] (aA rf):=fc
theorem Ak:‹(1,35,["state","sheet","items"],MA)›:=λD=>by
 specialize fG D.WD.F MB;obtain⟨a,r,rs,s,rfl,ha,sl,l1,k⟩:=h;exists _,(aj (bP (mG (vj gn gn ay (pv 1) (fX D.T.fj (pv 0)))) (au jw) bf) (au (aN (bx jh (bx jh (iV lV (pv 0) nH (i7 (pv 1))) (bM (aa (pv 2) ah))) (iV lV (pv 0) (i7 (bx dD (pv 1) ay)) nH)))));refine⟨Y,Z,Y,cW (λc0=>?_) (λc0=>absurd (decide_eq_true ∅) c0)⟩;exists Y,a,Y,.inl (bI.of ha),Z,Y;rw[decide_eq_true (show ((s:Nat):Int)<=((rs.length:Nat):Int) by lia)];refine gh ?_;refine⟨Y,Y,Y,a,Y,bI.of ha,λp1 RH=>?_⟩;rw[uU _ ∅,Int.toNat_natCast];have s1:aK H (aM H p1 (.lst (rs.take s))):=ak RH _;have h1:(aM H p1 (.lst (rs.take s))) p1=some (.lst (rs.take s)):=af;generalize aM H p1 (.lst (rs.take s))=H1 at s1 h1;refine⟨Y,m6,λp2 Uj=>?_⟩;have s2:aK H1 (aM H1 p2 (.lst [.ref r])):=ak Uj _;have h2:(aM H1 p2 (.lst [.ref r])) p2=some (.lst [.ref r]):=af;generalize aM H1 p2 (.lst [.ref r])=H2 at s2 h2;refine⟨p1,p2,Z,s2 _ _ h1,h2,(by rw[gB];exact gM (aR (by simp only[qD];lia))),λp3 hp3=>?_⟩;have s3:aK H2 (aM H2 p3 (.lst (rs.take s++[.ref r]))):=ak hp3 _;have h3:(aM H2 p3 (.lst (rs.take s++[.ref r]))) p3=some (.lst (rs.take s++[.ref r])):=af;generalize aM H2 p3 (.lst (rs.take s++[.ref r]))=H3 at s3 h3;have Px:=s1.trans (s2.trans s3);refine⟨Y,Y,Z,Y,a,Y,bI.of (Px _ _ ha),λp4 hp4=>?_⟩;rw[xB _ ∅,show (((s:Nat):Int)+1).toNat=s+1 by lia];have s4:aK H3 (aM H3 p4 (.lst (rs.drop (s+1)))):=ak hp4 _;have h4:(aM H3 p4 (.lst (rs.drop (s+1)))) p4=some (.lst (rs.drop (s+1))):=af;generalize aM H3 p4 (.lst (rs.drop (s+1)))=H4 at s4 h4;refine⟨p3,p4,Z,s4 _ _ h3,h4,(by rw[cP,gB,qO];exact gM (aR (by simp only[qD];lia))),λp5 hp5=>?_⟩;have s04:=Px.trans s4;exact k p5 _ af (s04.trans (ak hp5 _)) (aY s04 hp5)
theorem v7:‹(1,36,["self"],(SH CS))›:=λD=>by
 specialize fG D.ZS.F xC;obtain⟨x,d,rfl,hx,k⟩:=h;exists _,(aj (jf (pv 0) (bM (aa (bM ah) ah)) rfl) (au (jf (pv 0) (bM ah) rfl)));refine⟨iG,λz hz=>?_⟩;have a0:aK H (aM H z (.lst [])):=ak hz _;have z0:(aM H z (.lst [])) z=some (.lst []):=af;generalize aM H z (.lst [])=H0 at a0 z0;refine⟨m6,λst CN=>?_⟩;have a1:aK H0 (aM H0 st (.lst [.ref z])):=ak CN _;have b1:(aM H0 st (.lst [.ref z])) st=some (.lst [.ref z]):=af;generalize aM H0 st (.lst [.ref z])=H1 at a1 b1;have a01:=a0.trans a1;exists Y,x,CS,d,Y,a01 _ _ hx,D.cH.cl,D.j9,E;have k2:cB x H1 (aM H1 x (.ins CS d (L2.d8 "states" (.ref st) []))):=aG x _ _;have h2:(aM H1 x (.ins CS d (L2.d8 "states" (.ref st) []))) x=some (.ins CS d [("states",.ref st)]):=af;generalize aM H1 x (.ins CS d (L2.d8 "states" (.ref st) []))=H2 at k2 h2;have Xd:st≠x:=(az (a0 _ _ hx) CN).symm;have nzx:z≠x:=(az hx hz).symm;have nzs:z≠st:=az z0 CN;have b2:=k2 _ _ b1 Xd;have z2:=k2 _ _ (a1 _ _ z0) nzx;refine⟨iG,λop Qz=>?_⟩;have KS:op≠x:=(az h2 Qz).symm;have nso:st≠op:=az b2 Qz;have nzo:z≠op:=az z2 Qz;refine⟨Y,x,CS,d,Y,ak Qz _ _ _ h2,D.cH.cl,D.oR,(by show 1<1000;decide),?_⟩
 have k5:cB x H (aM (aM H2 op (.lst [])) x (.ins CS d (L2.d8 "openings" (.ref op) [("states",.ref st)]))):=λa ob e n=>by
  rw[aJ n];exact ak Qz _ _ _ (k2 _ _ (a01 _ _ e) n)
 have z5:(aM (aM H2 op (.lst [])) x (.ins CS d (L2.d8 "openings" (.ref op) [("states",.ref st)]))) z=some (.lst []):=by rw[aJ nzx];exact ak Qz _ _ _ z2
 have s5:(aM (aM H2 op (.lst [])) x (.ins CS d (L2.d8 "openings" (.ref op) [("states",.ref st)]))) st=some (.lst [.ref z]):=by rw[aJ Xd];exact ak Qz _ _ _ b2
 have o5:(aM (aM H2 op (.lst [])) x (.ins CS d (L2.d8 "openings" (.ref op) [("states",.ref st)]))) op=some (.lst []):=by rw[aJ KS];exact af
 have x5:(aM (aM H2 op (.lst [])) x (.ins CS d (L2.d8 "openings" (.ref op) [("states",.ref st)]))) x=some (.ins CS d [("states",.ref st),("openings",.ref op)]):=af;generalize aM (aM H2 op (.lst [])) x (.ins CS d (L2.d8 "openings" (.ref op) [("states",.ref st)]))=H5 at k5 z5 s5 o5 x5
 refine k st op z _ ⟨.inl rfl,.inr (.inl rfl),.inr (.inr (.inl rfl)),λa w=>?_,x5,⟨[z],s5,.cons ⟨.inr (.inr (.inr rfl)),nzs,nzo,[],z5,.nil⟩ .nil⟩,o5,nso,⟨⟨[],V⟩,λs o e=>(by cases s <;> cases e),λm rows e=>?_⟩⟩ k5 (aY a0 CN) ?_ hz
 ·rcases w with rfl|rfl|rfl|rfl
  ·exact⟨_,x5⟩
  ·exact⟨_,s5⟩
  ·exact⟨_,o5⟩
  ·exact⟨_,z5⟩
 ·match m,e with
  | 0,e=>cases e;exact fH _
  | m+1,e=>cases e
 ·exact aY a01 (iE k2 KS Qz)
theorem qg:‹(1,37,["self"],(aaP CS))›:=λD=>by
 specialize fG D.RV.F FZ;obtain⟨x,d,st,op,as,rfl,hx,hs,k⟩:=h;exists _,(au (aN (bx cQ (fX D.T.fj (dF (pv 0) rfl)) ay)));exact⟨Y,x,CS,d,_,.ref st,rfl,hx,D.cH.cl,D.j9,rfl,st,Y,.inl (bI.of hs),Z,k⟩
theorem tW:‹(1,38,["self"],(Xc CS))›:=λD=>by
 specialize fG D.WE.F DG;obtain⟨S,x,d,st,op,bL,ops,rfl,W,k⟩:=h;obtain⟨as,hs,a2⟩:=W.hs;obtain⟨last,hl,ol⟩:=W.QF.Cu;exists _,(au (aN (fX D.T.fj (aP bG (dF (pv 0) rfl) (gG eG ay)))));obtain⟨Ow,a,rfl,r⟩:=W.last hs;refine⟨Y,x,CS,d,_,.ref st,rfl,W.hx,D.cH.cl,D.j9,rfl,Y,st,P,.ref a,V,bI.of hs,(by rw[gy];exact fT _ _),?_⟩;obtain⟨_,_,_,rs,ha,al⟩:=r last hl;exists a,Y,.inl (bI.of ha);rw[cz,al.len,← ol];exact k
def Xe(rows:List (List aQ))(ch:Nat × List aQ):List (List aQ):=rows.take ch.1++[ch.2]++rows.drop (ch.1+1)
def l6(rows:List (List aQ))(qv:List (Nat × List aQ)):List (List aQ):=qv.foldl Xe rows
def Xf(rows:List (List aQ))(qv:List (Nat × List aQ)):Prop:=∀ (i:Nat) (ch:Nat × List aQ),qv[i]?=some ch->ch.1<=(l6 rows (qv.take i)).length
theorem SI{rows:List (List aQ)}{ch:Nat × List aQ}(h:ch.1<=rows.length):rows.length<=(Xe rows ch).length/\(Xe rows ch).length<=rows.length+1:=by
 unfold Xe;rw[cP,cP,gB,qO];simp only[qD];lia
theorem Cv{rows:List (List aQ)}{qv:List (Nat × List aQ)}{i:Nat}{ch:Nat × List aQ}(h:qv[i]?=some ch):l6 rows (qv.take (i+1))=Xe (l6 rows (qv.take i)) ch:=by
 unfold l6;rw[take_snoc h,List.foldl_append];rfl
theorem Al{rows:List (List aQ)}{qv:List (Nat × List aQ)}(ok:Xf rows qv):∀ i,i<=qv.length->rows.length<=(l6 rows (qv.take i)).length/\(l6 rows (qv.take i)).length<=rows.length+i
 | 0,_=>⟨Nat.le_refl _,fH _⟩
 | i+1,h=>by
  have e:qv[i]?=some qv[i]:=qM ∅;have a:=Al ok i ∅;have b:=SI (ok i _ e);rw[Cv e];lia
theorem Opn.step{bL:lJ}{ops:List Int}{last rows:List (List aQ)}(h:Opn bL ops)(hl:bL.getLast?=some last)(le:last.length<=rows.length):Opn (bL++[rows]) (ops++List.replicate (rows.length-last.length) ((bL.length:Nat):Int)):=by
 obtain⟨⟨l',tX,ol⟩,fit,less⟩:=h;rw[hl]at tX;cases tX
 have get:∀ (m:Nat) (r:List (List aQ)),(bL++[rows])[m]?=some r->bL[m]?=some r/\m<bL.length\/m=bL.length/\r=rows:=λm r e=>by
  by_cases c:m<bL.length
  ·rw[List.getElem?_append_left c]at e;exact .inl ⟨e,c⟩
  ·rw[List.getElem?_append_right ∅]at e
   match hm:m-bL.length,e with
   | 0,e=>cases e;exact .inr ⟨Q,rfl⟩
   | k+1,e=>cases e
 refine⟨⟨rows,jR,by rw[cP,wG];lia⟩,λs o e=>?_,λm r e=>?_⟩
 ·by_cases c:s<ops.length
  ·rw[List.getElem?_append_left c]at e;obtain⟨f0,f1,f2⟩:=fit s o e;refine⟨f0,by rw[cP];simp only[qD];lia,λm r em=>?_⟩;rcases get m r em with ⟨q,_⟩|⟨rfl,rfl⟩
   ·exact f2 m r q
   ·constructor
    ·intro _;lia
    ·intro _;lia
  ·rw[List.getElem?_append_right ∅,List.getElem?_replicate]at e;split at e
   ·cases e;refine⟨Q,by rw[cP];simp only[qD];lia,λm r em=>?_⟩;rcases get m r em with ⟨q,lt⟩|⟨rfl,rfl⟩
    ·have:=less m r q;constructor
     ·intro z;lia
     ·intro z;lia
    ·constructor
     ·intro _;lia
     ·intro _;lia
   ·cases e
 ·rw[cP,wG];rcases get m r e with ⟨q,_⟩|⟨rfl,rfl⟩
  ·have:=less m r q;lia
  ·lia
theorem cu.take{α β:Type}{R:α->β->Prop}:∀ {as:List α} {bs:List β} (n:Nat),cu R as bs->cu R (as.take n) (bs.take n)
 | _,_,0,_=>by rw[List.take_zero,List.take_zero];exact .nil
 | _,_,n+1,.nil=>.nil
 | _,_,n+1,.cons e r=>.cons e (r.take n)
theorem cu.drop{α β:Type}{R:α->β->Prop}:∀ {as:List α} {bs:List β} (n:Nat),cu R as bs->cu R (as.drop n) (bs.drop n)
 | _,_,0,h=>h
 | _,_,n+1,.nil=>.nil
 | _,_,n+1,.cons _ r=>r.drop n
theorem F0(v:V):∀ n:Nat,(List.replicate n [v]).flatten=List.replicate n v
 | 0=>rfl
 | n+1=>by rw[List.replicate_succ,List.flatten_cons,F0 v n,List.replicate_succ];rfl
theorem SJ{H:Hp}{a:Addr}{ob:HO}(h:H a=some ob):aM H a ob=H:=by
 funext b;by_cases e:b=a
 ·rw[e,af,h]
 ·rw[aJ e]
def IQ(H:Hp)(a:Addr)(ch:Nat × List aQ):Prop:=∃ r:Addr,H a=some (.tup [.int (ch.1:Nat),.ref r])/\bz H (.ref r) ch.2
theorem IQ.same{H H':Hp}{a:Addr}{ch:Nat × List aQ}(s:aK H H'):IQ H a ch->IQ H' a ch:=λ⟨r,h1,h2⟩=>⟨r,s _ _ h1,h2.same s⟩
class inductive Py(C:Addr)
 | mk (S:Addr->Prop) (x d st op c:Addr) (bL:lJ) (ops:List Int) (cs:List Addr) (qv:List (Nat × List aQ)) (last:List (List aQ)) (_:vs=[.ref x,.ref c]) (_:Sh C S H x d st op bL ops) (_:H c=some (.lst (cs.map V.ref))) (_:cu (IQ H) cs qv) (_:bL.getLast?=some last) (_:Xf last qv) (_:qv.length<=200) (_:last.length<=500) (_:bL.length<=1000) (_ :
 ∀ (S':Addr->Prop) (H':Hp),Sh C S' H' x d st op (bL++[l6 last qv]) (ops++List.replicate ((l6 last qv).length-last.length) ((bL.length:Nat):Int))->(∀ a,S' a->S a\/H a=none)->(∀ a ob,H a=some ob->¬ S a->H' a=some ob)->(∀ a xs,H a=some (.tup xs)->H' a=some (.tup xs))->Q .gm H')
theorem iI:aH ["self","changes","state","ahead","sheet","items"] ["self","changes"] (aA rj):=fc
theorem Bb:‹(2,39,["self","changes"],(Py CS))›:=λD=>by
 specialize fG D.ZT.F iI;obtain⟨S,x,d,st,op,c,bL,ops,cs,qv,last,rfl,W,hc,a2,hl,okc,lc,ll,lp,k⟩:=h;exists _,(aj (aU (i:=2) iI.nd (aP bG (dF (pv 0) rfl) (gG eG ay))) (aj (aU (i:=3) iI.nd (fX D.T.fj (pv 2))) (aj (dN PassesOwn.never rfl (cF (pv 1)) (kY (n:=2) rfl (bT (b8 (i:=4) iI.nd) (bT (b8 (i:=5) iI.nd) gC))) (au (aU (i:=2) iI.nd (aC D.WD (Ak D) hr (aa (pv 2) (aa (pv 4) (aa (cR cS rfl D.T.gu oM (aa (pv 5) ah)) ah))))))) (aj (aT (dX qC jX jY bU (dF (pv 0) rfl) (aa (pv 2) ah))) (au (wL (pv 0) (bx NR (bM (aa (ff (pv 0) D.cH D.RV (qg D) hr bN) ah)) (bx cQ (fX D.T.fj (pv 2)) (pv 3))) Ih))))));obtain⟨as,hs,al⟩:=id W.hs;obtain⟨Ow,a,ea,r⟩:=W.last hs;obtain⟨Sa,na1,na2,rs,ha,ar⟩:=r last hl;have lal:=al.len;refine⟨Y,x,CS,d,_,.ref st,rfl,W.hx,D.cH.cl,D.j9,rfl,Y,st,P,.ref a,V,bI.of hs,(by rw[ea,gy];exact fT _ _),?_⟩;exists Y,a,Y,.inl (bI.of ha);rw[cz,ar.len];have CN:∀ q,H q=none->q≠st/\q≠op:=λq hq=>⟨λz=>(by rw[z,hs]at hq;cases hq),λz=>(by rw[z,W.ho]at hq;cases hq)⟩;refine⟨Y,c,rfl,⟨_,bI.of hc⟩,dH (K:=K) (a:=c) (xs:=cs.map V.ref) (λi σ H1=>∃ (u4 u5:Option V) (S1:Addr->Prop) (ai:Addr),σ=[some (.ref x),some (.ref c),some (.ref ai),some (.int (last.length:Nat)),u4,u5]/\aK H H1/\(∀ q,S q->S1 q)/\(∀ q,S1 q->S q\/H q=none)/\(∀ q,S1 q->∃ ob,H1 q=some ob)/\IP S1 H1 st op ai (l6 last (qv.take i))) ⟨none,none,S,a,rfl,aK.refl _,λ_ z=>z,λ_ z=>.inl z,W.al,r last hl⟩ (by rintro i σ H1 _ ⟨_,_,_,_,_,s,_⟩;exact bI.of (s _ _ hc)) ?_ ?_⟩
 ·rintro i y σ H1 hi ⟨u4,u5,S1,ai,rfl,s1,up,sub,al1,sa1⟩;rw[fP]at hi;obtain⟨t,et,rfl⟩:=Option.map_eq_some_iff.mp hi;obtain⟨ch,ech,q⟩:=a2.get et;have il:=(List.getElem?_eq_some_iff.mp ech).1;obtain⟨ri,ht,hri⟩:=q.same s1;obtain⟨b,vs,eb,hb,itb⟩:=id hri;cases eb;obtain⟨Sai,aaR,aeK,rsi,hai,ari⟩:=id sa1;exists t,Y,cY.of ht,rfl,P,rfl,Z;refine⟨Y,Y,Y,ri,Y,.inl (bI.of hb),λz hz=>?_⟩;have s2:aK H1 (aM H1 z (.lst vs)):=ak hz _;have z2:(aM H1 z (.lst vs)) z=some (.lst vs):=af;generalize aM H1 z (.lst vs)=H2 at s2 z2;have lens:=Al okc i ∅;have aeL:=okc i ch ech;have lri:=ari.len;refine⟨ai,z,_,ch.1,rfl,s2 _ _ hai,by rw[cz,lri];exact aeL,by rw[cz,lri];lia,λp H3 hp3 s3 fp=>?_⟩;have s23:=s2.trans s3;have fz:H z=none:=aY s1 hz;have fp':H p=none:=aY (s1.trans s2) fp;exists P,λq=>S1 q\/q=z\/q=p,p,rfl,s1.trans s23,λq z=>.inl (up q z),λq w=>?_,λq w=>?_,.inr (.inr rfl),(CN p fp').1,(CN p fp').2,rsi.take ch.1++[z]++rsi.drop (ch.1+1),?_
  ·rcases w with w|rfl|rfl
   ·exact sub q w
   ·exact .inr fz
   ·exact .inr fp'
  ·rcases w with w|rfl|rfl
   ·obtain⟨ob,e⟩:=al1 q w;exact⟨ob,s23 _ _ e⟩
   ·exact⟨_,s3 _ _ z2⟩
   ·exact⟨_,hp3⟩
  ·rw[hp3];simp only[gy,List.map_take,List.map_drop,jv,List.map_nil]
  ·rw[Cv ech];have mv:cu (aaO (λq=>S1 q\/q=z\/q=p) H3 st op) rsi (l6 last (qv.take i)):=ari.mono λr aL q=>⟨.inl q.own,q.ne,q.at'.same s23⟩;refine ((mv.take ch.1).app (.cons ⟨.inr (.inl rfl),CN z fz,⟨z,vs,rfl,s3 _ _ z2,itb.mono λv it q=>q.same s23⟩⟩ .nil)).app (mv.drop (ch.1+1))
 ·rintro σ H1 ⟨u4,u5,S1,ai,rfl,s1,up,sub,al1,sa1⟩;have lcs:(cs.map V.ref).length=qv.length:=by rw[cz,a2.len]
  rw[lcs,gQ]at sa1;have lens:=Al okc qv.length (fH _);rw[gQ]at lens;obtain⟨Sai,aaR,aeK,rsi,hai,ari⟩:=id sa1;have lri:=ari.len;have W1:=W.same s1;have Xg:=s1 _ _ hs;refine⟨Y,x,CS,d,_,.ref st,rfl,W1.hx,D.cH.cl,D.j9,rfl,.inl ⟨rfl,_,bI.of Xg⟩,Y,st,Z,Xg,(by rw[cz];exact aR ∅),?_⟩;rw[show as.map V.ref++[.ref ai]=(as++[ai]).map V.ref by rw[gy];rfl];have k2:cB st H1 (aM H1 st (.lst ((as++[ai]).map V.ref))):=aG st _ _;have st2:(aM H1 st (.lst ((as++[ai]).map V.ref))) st=some (.lst ((as++[ai]).map V.ref)):=af;generalize aM H1 st (.lst ((as++[ai]).map V.ref))=H2 at k2 st2;have nxs:x≠st:=cV W1.hx Xg;have nxo:x≠op:=cV W1.hx W1.ho;have x2:=k2 _ _ W1.hx nxs;have o2:=k2 _ _ W1.ho W.ne.symm;have ai2:=k2 _ _ hai aaR
  have lmn:(((as++[ai]).map V.ref).length:Int)-1=((bL.length:Nat):Int):=by
   rw[cz,cP,lal];simp only[qD];lia
  exists Y,x,CS,d,_,.ref op,rfl,x2,D.cH.cl,D.oR,rfl,Y,x,d,Y,x2,rfl,x,d,st,op,Y,x2,st2;rw[lmn];refine⟨m6,λt2 Ib=>?_⟩;have s3:aK H2 (aM H2 t2 (.lst [.int (bL.length:Nat)])):=ak Ib _;have b3:(aM H2 t2 (.lst [.int (bL.length:Nat)])) t2=some (.lst [.int (bL.length:Nat)]):=af;generalize aM H2 t2 (.lst [.int (bL.length:Nat)])=H3 at s3 b3;exists Y,ai,Y,.inl (bI.of (s3 _ _ ai2)),Y,Z;rw[cz,lri];have ek:(((l6 last qv).length:Nat):Int)-((last.length:Nat):Int)=(((l6 last qv).length-last.length:Nat):Int):=by lia
  show Y7 _ (V.int ((((l6 last qv).length:Nat):Int)-((last.length:Nat):Int))) _ _;rw[ek];refine⟨t2,Z,b3,Q,Q,(by simp only[qD];exact gM (aR ∅)),λt3 M8=>?_⟩;rw[Int.toNat_natCast,F0];generalize hk:(l6 last qv).length-last.length=kk;have s4:aK H3 (aM H3 t3 (.lst (List.replicate kk (V.int (bL.length:Nat))))):=ak M8 _;have b4:(aM H3 t3 (.lst (List.replicate kk (V.int (bL.length:Nat))))) t3=some (.lst (List.replicate kk (V.int (bL.length:Nat)))):=af;generalize aM H3 t3 (.lst (List.replicate kk (V.int (bL.length:Nat))))=H4 at s4 b4;have s24:=s3.trans s4
  have lo:ops.length<=700:=by
   obtain⟨l',tX,ol⟩:=W.QF.Cu;rw[hl]at tX;cases tX;lia
  refine⟨op,t3,Z,s24 _ _ o2,b4,(by rw[cz,wG];exact gM (aR ∅)),?_⟩;rw[show ops.map V.int++List.replicate kk (V.int (bL.length:Nat))=(ops++List.replicate kk ((bL.length:Nat):Int)).map V.int by rw[gy,List.map_replicate]];have k5:cB op H4 (aM H4 op (.lst ((ops++List.replicate kk ((bL.length:Nat):Int)).map V.int))):=aG op _ _;have o5:(aM H4 op (.lst ((ops++List.replicate kk ((bL.length:Nat):Int)).map V.int))) op=some (.lst ((ops++List.replicate kk ((bL.length:Nat):Int)).map V.int)):=af;generalize aM H4 op (.lst ((ops++List.replicate kk ((bL.length:Nat):Int)).map V.int))=H5 at k5 o5;have x5:=k5 _ _ (s24 _ _ x2) nxo;refine⟨d,_,x5,(by show 2<1000;decide),?_⟩;have e5:aM H5 x (.ins CS d (L2.d8 "openings" (.ref op) ([("states",.ref st),("openings",.ref op)]:List (Str × V))))=H5:=SJ x5;rw[e5];have k15:∀ q ob,H1 q=some ob->q≠st->q≠op->H5 q=some ob:=λq ob e m1 m2=>k5 _ _ (s24 _ _ (k2 _ _ e m1)) m2;have t15:∀ q xs,H1 q=some (.tup xs)->H5 q=some (.tup xs):=λq xs e=>k15 _ _ e (cV e Xg) (cV e W1.ho);have XR:=k5 _ _ (s24 _ _ st2) W.ne;refine k S1 H5 ⟨up _ W.sx,up _ W.ss,up _ W.so,λq w=>?_,x5,⟨as++[ai],XR,?_⟩,by rw[hk];exact o5,W.ne,W.QF.step hl lens.1⟩ sub (λq ob e n=>?_) (λq xs e=>t15 _ _ (s1 _ _ e))
  ·by_cases z1:q=st
   ·rw[z1];exact⟨_,XR⟩
   by_cases z2:q=op
   ·rw[z2];exact⟨_,o5⟩
   obtain⟨ob,e⟩:=al1 q w;exact⟨ob,k15 _ _ e z1 z2⟩
  ·refine (cu.mono (λa rows q=>?_) al).app (.cons (sa1.fr (λ_ z=>z) (λq ob e _ m1 m2=>k15 _ _ e m1 m2) t15) .nil);exact q.fr up (λq ob e _ m1 m2=>k15 _ _ (s1 _ _ e) m1 m2) (λq xs e=>t15 _ _ (s1 _ _ e))
  ·exact k15 _ _ (s1 _ _ e) (λz=>n (by rw[z];exact W.ss)) (λz=>n (by rw[z];exact W.so))
def sS(n:Nat)(a:Int):Prop:=0<=a/\a<(n:Nat)
theorem sS.get{n:Nat}{a:Int}(h:sS n a):∃ j:Nat,a=j/\j<n:=by
 obtain⟨h0,h1⟩:=h;exact⟨a.toNat,Q,Q⟩
def IS(bL:lJ)(ops:List Int):Prop:=bL.length<=1000/\ops.length<=1000
class inductive MC(C:Addr)
 | mk (S:Addr->Prop) (x d st op:Addr) (bL:lJ) (ops:List Int) (s:Int) (_:vs=[.ref x,.int s]) (_:Sh C S H x d st op bL ops) (_:sS ops.length s) (_:Q .gm H)
class inductive MD(C:Addr)
 | mk (S:Addr->Prop) (x d st op:Addr) (bL:lJ) (ops:List Int) (m:Int) (_:vs=[.ref x,.int m]) (_:Sh C S H x d st op bL ops) (_:sS bL.length m) (_:Q .gm H)
def Told(H:Hp)(aL:List aQ)(Q:V->Hp->Prop):Prop:=∀ (q:Addr) (H':Hp),bz H' (.ref q) aL->aK H H'->H q=none->Q (.ref q) H'
class inductive Xh(C:Addr)
 | mk (S:Addr->Prop) (x d st op:Addr) (bL:lJ) (ops:List Int) (s:Int) (_:vs=[.ref x,.int s]) (_:Sh C S H x d st op bL ops) (_:sS ops.length s) (_:(∀ (si:Nat) (last:List (List aQ)) (aL:List aQ),s=si->bL.getLast?=some last->last[si]?=some aL->Told H aL Q))
def SK(H H':Hp)(q:Addr)(rows:List (List aQ)):Prop:=H q=none/\∃ rs:List Addr,H' q=some (.lst (rs.map V.ref))/\cu (λr aL=>H r=none/\r≠q/\bz H' (.ref r) aL) rs rows
class inductive F1(C:Addr)
 | mk (S:Addr->Prop) (x d st op:Addr) (bL:lJ) (ops:List Int) (m:Int) (_:vs=[.ref x,.int m]) (_:Sh C S H x d st op bL ops) (_:IS bL ops) (_:sS bL.length m) (_:(∀ (mi:Nat) (rows:List (List aQ)),m=mi->bL[mi]?=some rows->∀ (q:Addr) (H':Hp),SK H H' q rows->aK H H'->Q (.ref q) H'))
class inductive Xi(C:Addr)
 | mk (S:Addr->Prop) (x d st op:Addr) (bL:lJ) (ops:List Int) (_:vs=[.ref x]) (_:Sh C S H x d st op bL ops) (_:IS bL ops) (_:(∀ (rows:List (List aQ)),bL.getLast?=some rows->∀ (q:Addr) (H':Hp),SK H H' q rows->aK H H'->Q (.ref q) H'))
theorem sZ:aH ["self","sheet"] ["self","sheet"] (aA ji):=fc
theorem rM:aH ["self","moment"] ["self","moment"] (aA iO):=fc
theorem F2:aH ["self","sheet"] ["self","sheet"] (aA uy):=fc
theorem v8:aH ["self","moment"] ["self","moment"] (aA iD):=fc
theorem DH:aH ["self"] ["self"] (aA rm):=fc
theorem cE:‹(2,40,["self","sheet"],(MC CS))›:=λD=>by
 specialize fG D.Dr.F sZ;obtain⟨S,x,d,st,op,bL,ops,a,rfl,W,iw,k1⟩:=h;exists _,(au (bP (mG (vj gn mJ ay (pv 1) (ff (pv 0) D.cH D.WE (tW D) hr bN))) (au jw) bf));exists Y,Z,Y;rw[decide_eq_true iw.1];refine cW (λ_=>?_) (λc=>absurd rfl c);exists Y,x,d,Y,W.hx,rfl,S,x,d,st,op,bL,ops,rfl,W,Z,Y;rw[decide_eq_true iw.2];exact gh k1
theorem qJ:‹(2,41,["self","moment"],(MD CS))›:=λD=>by
 specialize fG D.ZU.F rM;obtain⟨S,x,d,st,op,bL,ops,a,rfl,W,iw,k1⟩:=h;obtain⟨as,hs,al⟩:=W.hs;exists _,(au (bP (mG (vj gn gn ay (pv 1) (ff (pv 0) D.cH D.RV (qg D) hr bN))) (au jw) bf));exists Y,Z,Y;rw[decide_eq_true iw.1];refine cW (λ_=>?_) (λc=>absurd rfl c);exists Y,x,d,Y,W.hx,rfl,x,d,st,op,Y,W.hx,hs,Z,Y;rw[decide_eq_true (show a<=((as.map V.ref).length:Int)-1 by rw[cz,al.len];exact Int.le_sub_one_of_lt iw.2)];exact gh k1
theorem Sh.at'{S:Addr->Prop}{H:Hp}{x d st:Addr}{bL:lJ}{ops:List Int}(h:Sh C S H x d st op bL ops){as:List Addr}(ha:H st=some (.lst (as.map V.ref))){i:Nat}{rows:List (List aQ)}(e:bL[i]?=some rows):∃ a,as[i]?=some a/\IP S H st op a rows:=by
 obtain⟨bs,hb,a2⟩:=h.hs
 have e':as=bs:=by
  rw[ha]at hb;exact Aj (HO.lst.inj (qP hb))
 subst e';exact a2.get' e
theorem Sh.UH{S:Addr->Prop}{H:Hp}{x d st:Addr}{bL:lJ}{ops:List Int}(h:Sh C S H x d st op bL ops):∃ last,bL.getLast?=some last/\bL[bL.length-1]?=some last/\ops.length=last.length:=by
 obtain⟨last,hl,ol⟩:=h.QF.Cu;refine⟨last,hl,?_,ol⟩;rw[List.getLast?_eq_getElem?]at hl;exact hl
theorem DJ:‹(3,44,["self","sheet"],(Xh CS))›:=λD=>by
 specialize fG D.ZW.F F2;obtain⟨S,x,d,st,op,bL,ops,a,rfl,W,ia,k1⟩:=h;exists _,(aj (aT (cL (pv 0) D.cH D.Dr (cE D) hr bN (aa (pv 1) ah))) (au (aN (cR cS rfl D.T.gu oM (aa (aP bG (aP bG (dF (pv 0) rfl) (gG eG ay)) (pv 1)) ah)))));exists Y,x,d,Y,W.hx,rfl,Y,S,x,d,st,op,bL,ops,a,rfl,W,ia;obtain⟨j,rfl,jl⟩:=ia.get;obtain⟨as,hs,al⟩:=id W.hs;obtain⟨Ow,b,ea,r⟩:=W.last hs;obtain⟨last,hl,_,ol⟩:=W.UH;obtain⟨_,_,_,rs,hb,ar⟩:=r last hl;have el:last[j]?=some last[j]:=qM ∅;obtain⟨ri,eri,kZ⟩:=ar.get' el;obtain⟨c,vs,ec,hc,it⟩:=kZ.at';cases ec;refine⟨Y,x,CS,d,_,.ref st,rfl,W.hx,D.cH.cl,D.j9,rfl,Y,st,P,.ref b,V,bI.of hs,(by rw[ea,gy];exact fT _ _),Y,b,P,.ref ri,V,bI.of hb,dc (by rw[fP,eri];rfl),ri,Y,.inl (bI.of hc),λq hq=>?_⟩;exact k1 j last _ rfl hl el q _ ⟨q,vs,rfl,af,it.mono λv i z=>z.same (ak hq _)⟩ (ak hq _) hq
theorem uV:‹(3,42,["self","moment"],(F1 CS))›:=λD=>by
 specialize fG D.ZV.F v8;obtain⟨S,x,d,st,op,bL,ops,m,rfl,W,ok,im,k1⟩:=h;obtain⟨as,hs,al⟩:=id W.hs;refine⟨_,(aj (aT (cL (pv 0) D.cH D.ZU (qJ D) hr bN (aa (pv 1) ah))) (au (aN (gZ (N:=["items"]) (nL (sc:=aA iD) (NX:=["self","moment"]) (jx:=[none]) rfl rfl rfl nofun nofun rfl nofun rfl nofun) rfl (cF (aP bG (dF (pv 0) rfl) (pv 1))) (λ_ _ _ _ _ _=>(b8 (i:=0) (show List.Nodup (["items"]:List Str) by decide +kernel))) (λ_ _ _ _ _ _=>jb) (λ_ _ _ _ _ _=>(cR Ig rfl D.T.gu oM (aa (pv 0) ah))))))),?_⟩;exists Y,x,d,Y,W.hx,rfl,Y,S,x,d,st,op,bL,ops,m,rfl,W,im;obtain⟨i,rfl,il⟩:=im.get;have er:bL[i]?=some bL[i]:=qM il;generalize bL[i]=rows at er;obtain⟨b,eb,_,_,_,rs,hb,ar⟩:=W.at' hs er;have lr:=ar.len;have lo:=W.QF.less i rows er;have ok2:=ok.2;refine⟨Y,x,CS,d,_,.ref st,rfl,W.hx,D.cH.cl,D.j9,rfl,Y,st,P,.ref b,V,bI.of hs,dc (by rw[fP,eb];rfl),?_⟩;refine⟨b,rfl,⟨_,bI.of hb⟩,λacc cT=>gE (K:=K) (a:=b) (xs:=rs.map V.ref) (λj σ H1=>∃ (u:Option V) (qs:List Addr),σ=[u]/\H1 acc=some (.lst (qs.map V.ref))/\aK H H1/\cu (λr aL=>H r=none/\r≠acc/\bz H1 (.ref r) aL) qs (rows.take j)) ⟨none,[],rfl,af,ak cT _,by rw[List.take_zero];exact .nil⟩ (λj σ H1 _ ⟨K,_,s,_⟩=>bI.of (s _ _ hb)) ?_ ?_⟩
 ·rintro j y σ H1 hj ⟨u,qs,rfl,ha,s1,aq⟩;rw[fP]at hj;obtain⟨ri,eri,rfl⟩:=Option.map_eq_some_iff.mp hj;obtain⟨aL,aeP,kZ⟩:=ar.get eri;obtain⟨c,vs,ec,hc,it⟩:=kZ.at';cases ec;refine⟨Y,ri,Y,.inl (bI.of (s1 _ _ hc)),λz hz=>⟨_,ak hz _ _ _ ha,?_,_,qs++[z],rfl,?_,?_,?_⟩⟩
  ·have:=aq.len;rw[gB]at this;rw[cz];exact aR ∅
  ·rw[af,gy];rfl
  ·intro q ob e;rw[aJ (az e cT)];exact ak hz _ _ _ (s1 _ _ e)
  ·have nza:z≠acc:=(az ha hz).symm
   have fr:∀ q ob,H1 q=some ob->q≠acc->(aM (aM H1 z (.lst vs)) acc (.lst (qs.map V.ref++[.ref z]))) q=some ob:=λq ob e n=>by
    rw[aJ n];exact ak hz _ _ _ e
   have tu:∀ q xs,H1 q=some (.tup xs)->(aM (aM H1 z (.lst vs)) acc (.lst (qs.map V.ref++[.ref z]))) q=some (.tup xs):=λq xs e=>fr _ _ e (cV e ha (by intro w;cases w));rw[take_snoc aeP];refine cu.snoc (aq.mono λr aL ⟨h1,h2,h3⟩=>⟨h1,h2,h3.fr (λxs e=>fr _ _ e h2) tu⟩) ⟨aY s1 hz,nza,z,vs,rfl,?_,it.mono λv i ⟨q,e,hq⟩=>⟨q,e,tu _ _ (s1 _ _ hq)⟩⟩;rw[aJ nza];exact af
 ·rintro σ H1 ⟨u,qs,rfl,ha,s1,aq⟩;rw[cz,lr,gQ]at aq;exact k1 i rows rfl er acc H1 ⟨cT,qs,ha,aq⟩ s1
theorem eE:‹(4,43,["self"],(Xi CS))›:=λD=>by
 specialize fG D.A2.F DH;obtain⟨S,x,d,st,op,bL,ops,rfl,W,ok,k⟩:=h;obtain⟨as,hs,al⟩:=id W.hs;obtain⟨last,hl,xW,_⟩:=W.UH;have lp:bL.length-1<bL.length:=(List.getElem?_eq_some_iff.mp xW).1;have ok1:=ok.1;have la:(((as.map V.ref).length:Nat):Int)-1=((bL.length-1:Nat):Int):=by rw[cz,al.len];lia
 exists _,(au (aN (cL (pv 0) D.cH D.ZV (uV D) hr bN (aa (ff (pv 0) D.cH D.RV (qg D) hr bN) ah))));exists Y,x,d,Y,W.hx,rfl,Y,x,d,Y,W.hx,rfl,x,d,st,op,Y,W.hx,hs;rw[la];refine⟨S,x,d,st,op,bL,ops,Y,W,ok,⟨Q,Q⟩,λmi rows em er q H1 fs s1=>?_⟩;have:mi=bL.length-1:=by lia
 subst this;rw[xW]at er;cases er;exact k last hl q H1 fs s1
class inductive Kx(C:Addr)
 | mk (x d:Addr) (_:vs=[.ref x]) (_:H x=some (.ins C d [])) (_: ∀ (fs:List (Str × V)) (H':Hp),H' x=some (.ins C d fs)->cB x H H'->Q .gm H')
theorem yE:aH ["self"] ["self"] (aA mL):=fc
theorem yF:aH ["self"] ["self"] (aA mO):=fc
theorem F3{x z:Addr}{H:Hp}{o o':HO}(hz:H z=none):cB x H (aM (aM H z o) x o'):=λa ob e n=>by
 rw[aJ n];exact ak hz o a ob e
theorem xD:‹(1,46,["self"],(Kx CD))›:=λD=>by
 specialize fG D.ZY.F yF;obtain⟨x,d,rfl,hx,k⟩:=h;exists _,(au (jf (pv 0) mY rfl));intro z hz;exact⟨Y,x,CD,d,Y,ak hz _ _ _ hx,D.Fp.cl,D.J2,E,k _ _ af (F3 hz)⟩
theorem xE:‹(1,45,["self"],(Kx CT))›:=λD=>by
 specialize fG D.ZX.F yE;obtain⟨x,d,rfl,hx,k⟩:=h;exists _,(aj (jf (pv 0) ay rfl) (au (jf (pv 0) mY rfl)));exists Y,x,CT,d,Y,hx,D.Ci.cl,D.C2,E;have k1:cB x H (aM H x (.ins CT d (L2.d8 "given" (.int 0) []))):=aG x _ _;have h1:(aM H x (.ins CT d (L2.d8 "given" (.int 0) []))) x=some (.ins CT d (L2.d8 "given" (.int 0) [])):=af;generalize aM H x (.ins CT d (L2.d8 "given" (.int 0) []))=H1 at k1 h1;intro z hz;exact⟨Y,x,CT,d,Y,ak hz _ _ _ h1,D.Ci.cl,D.C3,(by show 1<1000;decide),k _ _ af (k1.trans (F3 hz))⟩
def QG(aI:iN):List V:=aI.map λp=>Ce p.2
def JS(aI:iN):List V:=aI.map λp=>V.int p.1
def pB(h:Int)(cs:List Nat):iN:=cs.map λc=>(h,c)
theorem sU(h:Int)(cs:List Nat):(pB h cs).length=cs.length:=cz ..
theorem SM(aI:iN)(h:Int)(cs:List Nat):QG (aI++pB h cs)=QG aI++cs.map Ce:=by
 unfold QG pB;rw[gy,List.map_map];rfl
theorem DK(v:V):∀ n:Nat,(List.replicate n [v]).flatten=List.replicate n v
 | 0=>rfl
 | n+1=>by rw[List.replicate_succ,List.flatten_cons,DK v n,List.replicate_succ];rfl
theorem SN(aI:iN)(h:Int)(cs:List Nat):JS (aI++pB h cs)=JS aI++(List.replicate cs.length [V.int h]).flatten:=by
 rw[DK];unfold JS pB;rw[gy,List.map_map];congr 1;exact List.map_eq_replicate_iff.mpr λc _=>rfl
def uW(h:Int):Nat->iN->List Int
 | _,[]=>[]
 | i,p::r=>if p.1=h then (i:Int)::uW h (i+1) r else uW h (i+1) r
theorem nj(h:Int):∀ (a b:iN) (i:Nat),uW h i (a++b)=uW h i a++uW h (i+a.length) b
 | [],b,i=>rfl
 | p::a,b,i=>by
  rw[List.cons_append,uW,uW,lR,nj h a b (i+1),show i+1+a.length=i+(a.length+1) by lia]
  split <;> rfl
theorem xF(h:Int):∀ (cs:List Nat) (i:Nat),uW h i (pB h cs)=run (i:Int) cs.length
 | [],i=>rfl
 | c::cs,i=>by
  show uW h i ((h,c)::pB h cs)=_;rw[uW,if_pos rfl,xF h cs (i+1),lR,run,show ((i+1:Nat):Int)=(i:Int)+1 by lia]
theorem nu{h g:Int}(n:g≠h):∀ (cs:List Nat) (i:Nat),uW h i (pB g cs)=[]
 | [],i=>rfl
 | c::cs,i=>by
  show uW h i ((g,c)::pB g cs)=_;rw[uW,if_neg n,nu n cs (i+1)]
theorem Am(a b:Int)(k:Nat)(e:b=a+k):bu [(a,b)]=run a k:=by
 show fN (a,b)++[]=_;rw[gK];show run a (b-a).toNat=_;rw[show (b-a).toNat=k by lia]
structure Pw(S:Addr->Prop)(H:Hp)(s o:Addr)(n:Nat)(kvs:List (eT × V))(aI:iN):Prop where
 got:∀ h v,cI kvs (Sum.inl h)=some v->∃ (l:Addr) (row:Row),v=.ref l/\S l/\l≠s/\l≠o/\ck H l row/\(∀ p∈row,p.1<=p.2)/\bu row=uW h 0 aI/\row.length<=n
 gm:∀ h,cI kvs (Sum.inl h)=none->uW h 0 aI=[]
 one:∀ h g v,cI kvs (Sum.inl h)=some v->cI kvs (Sum.inl g)=some v->h=g
 len:kvs.length<=n
structure We(C:Addr)(S:Addr->Prop)(H:Hp)(x d s o p:Addr)(n:Nat)(aI:iN):Prop where
 sx:S x
 ss:S s
 so:S o
 sp:S p
 al:∀ a,S a->∃ ob,H a=some ob
 hx:H x=some (.ins C d [("signs",.ref s),("owners",.ref o),("pourings",.ref p)])
 hs:H s=some (.lst (QG aI))
 ho:H o=some (.lst (JS aI))
 ne:s≠o
 dk:∃ kvs,H p=some (.dK kvs)/\Pw S H s o n kvs aI
theorem ck.two{H H':Hp}{r:Addr}{row:Row}(h:ck H r row)(k:∀ xs,H r=some (.lst xs)->H' r=some (.lst xs))(t:∀ a xs,H a=some (.tup xs)->H' a=some (.tup xs)):ck H' r row:=by
 obtain⟨as,h1,h2⟩:=h;exact⟨as,k _ h1,h2.tups t⟩
theorem We.fr{S:Addr->Prop}{H H':Hp}{x d s p:Addr}{n:Nat}{aI:iN}(h:We C S H x d s o p n aI)(k:∀ a ob,H a=some ob->S a->H' a=some ob)(t:∀ a xs,H a=some (.tup xs)->H' a=some (.tup xs)):We C S H' x d s o p n aI:=by
 obtain⟨sx,ss,so,sp,al,hx,hs,ho,ne,kvs,hp,pw⟩:=h;refine⟨sx,ss,so,sp,λa z=>?_,k _ _ hx sx,k _ _ hs ss,k _ _ ho so,ne,kvs,k _ _ hp sp,λh v e=>?_,pw.gm,pw.one,pw.len⟩
 ·obtain⟨ob,e⟩:=al a z;exact⟨ob,k _ _ e z⟩
 ·obtain⟨l,row,e1,e2,e3,e4,e5,r⟩:=pw.got h v e;exact⟨l,row,e1,e2,e3,e4,e5.two (λxs q=>k _ _ q e2) t,r⟩
theorem We.same{S:Addr->Prop}{H H':Hp}{x d s p:Addr}{n:Nat}{aI:iN}(h:We C S H x d s o p n aI)(k:aK H H'):We C S H' x d s o p n aI:=h.fr (λa ob e _=>k a ob e) (λa xs e=>k _ _ e)
theorem Ky(aI:iN):(QG aI).length=aI.length:=cz ..
theorem SO(aI:iN):(JS aI).length=aI.length:=cz ..
theorem Pz{H:Hp}{a:Addr}{ob:HO}(h:H a=some ob):aM H a ob=H:=by
 funext b;by_cases e:b=a
 ·rw[e,af,h]
 ·rw[aJ e]
class inductive SQ(C:Addr)
 | mk (x d:Addr) (_:vs=[.ref x]) (_:H x=some (.ins C d [])) (_: ∀ (s o p:Addr) (H':Hp),We C (λa=>a=x\/a=s\/a=o\/a=p) H' x d s o p 0 []->cB x H H'->H s=none->H o=none->H p=none->Q .gm H')
class inductive SR(C:Addr)
 | mk (x d s o p:Addr) (aI:iN) (_:vs=[.ref x]) (_:H x=some (.ins C d [("signs",.ref s),("owners",.ref o),("pourings",.ref p)])) (_:H s=some (.lst (QG aI))) (_:Q (.int (aI.length:Nat)) H)
class inductive Xj(C:Addr)
 | mk (S:Addr->Prop) (x d s o p:Addr) (n:Nat) (aI:iN) (h:Int) (cs:List Nat) (_:vs=[.ref x,.int h,.str (fF cs)]) (_:We C S H x d s o p n aI) (_:aI.length+cs.length<=100000) (_:n<=1000) (_ :
 ∀ (S':Addr->Prop) (q:Addr) (H':Hp),We C S' H' x d s o p (n+1) (aI++pB h cs)->H' q=some (.tup [.int (aI.length:Nat),.int ((aI++pB h cs).length:Nat)])->(∀ a,S' a->S a\/H a=none)->(∀ a ob,H a=some ob->¬ S a->H' a=some ob)->(∀ a xs,H a=some (.tup xs)->H' a=some (.tup xs))->Q (.ref q) H')
theorem yG:aH ["self"] ["self"] (aA mP):=fc
theorem F4:aH ["self"] ["self"] (aA uz):=fc
theorem rN:aH ["self","hand","text","start","stretch"] ["self","hand","text"] (aA uA):=fc
theorem xG:‹(1,47,["self"],(SQ CW))›:=λD=>by
 specialize fG D.ZZ.F yG;obtain⟨x,d,rfl,hx,k⟩:=h;exists _,(aj (jf (pv 0) (bM ah) rfl) (aj (jf (pv 0) (bM ah) rfl) (au (jf (pv 0) mY rfl))));refine⟨iG,λs hs=>?_⟩;have a1:aK H (aM H s (.lst [])):=ak hs _;have b1:(aM H s (.lst [])) s=some (.lst []):=af;generalize aM H s (.lst [])=H1 at a1 b1;exists Y,x,CW,d,Y,a1 _ _ hx,D.kL.cl,D.wU,E;have k2:cB x H1 (aM H1 x (.ins CW d (L2.d8 "signs" (.ref s) []))):=aG x _ _;have h2:(aM H1 x (.ins CW d (L2.d8 "signs" (.ref s) []))) x=some (.ins CW d [("signs",.ref s)]):=af;generalize aM H1 x (.ins CW d (L2.d8 "signs" (.ref s) []))=H2 at k2 h2;have Xd:s≠x:=(az hx hs).symm;have b2:=k2 _ _ b1 Xd;refine⟨iG,λo ho=>?_⟩;have a3:aK H2 (aM H2 o (.lst [])):=ak ho _;have c3:(aM H2 o (.lst [])) o=some (.lst []):=af;generalize aM H2 o (.lst [])=H3 at a3 c3;refine⟨Y,x,CW,d,Y,a3 _ _ h2,D.kL.cl,D.vA,(by show 1<1000;decide),?_⟩;have k4:cB x H3 (aM H3 x (.ins CW d (L2.d8 "owners" (.ref o) [("signs",.ref s)]))):=aG x _ _;have h4:(aM H3 x (.ins CW d (L2.d8 "owners" (.ref o) [("signs",.ref s)]))) x=some (.ins CW d [("signs",.ref s),("owners",.ref o)]):=af;generalize aM H3 x (.ins CW d (L2.d8 "owners" (.ref o) [("signs",.ref s)]))=H4 at k4 h4;have KS:o≠x:=(az h2 ho).symm;have c4:=k4 _ _ c3 KS;have b4:=k4 _ _ (a3 _ _ b2) Xd;intro p hp;have npx:p≠x:=(az h4 hp).symm;refine⟨Y,x,CW,d,Y,ak hp _ _ _ h4,D.kL.cl,D.oS,(by show 2<1000;decide),?_⟩
 have k5:cB x H (aM (aM H4 p (.dK [])) x (.ins CW d (L2.d8 "pourings" (.ref p) [("signs",.ref s),("owners",.ref o)]))):=λa ob e n=>by
  rw[aJ n];exact ak hp _ _ _ (k4 _ _ (a3 _ _ (k2 _ _ (a1 _ _ e) n)) n)
 refine k s o p _ ⟨.inl rfl,.inr (.inl rfl),.inr (.inr (.inl rfl)),.inr (.inr (.inr rfl)),λa z=>?_,af,?_,?_,az b2 ho,[],?_,?_⟩ k5 hs ?_ ?_
 ·rcases z with rfl|rfl|rfl|rfl
  ·exact⟨_,af⟩
  ·exact⟨_,by rw[aJ Xd];exact ak hp _ _ _ b4⟩
  ·exact⟨_,by rw[aJ KS];exact ak hp _ _ _ c4⟩
  ·exact⟨_,by rw[aJ npx];exact af⟩
 ·rw[aJ Xd];exact ak hp _ _ _ b4
 ·rw[aJ KS];exact ak hp _ _ _ c4
 ·rw[aJ npx];exact af
 ·exact⟨λh v e=>(by cases e),λh e=>rfl,λh g v e=>(by cases e),fH _⟩
 ·exact aY a1 (iE k2 KS ho)
 ·exact aY a1 (iE k2 npx (aY a3 (iE k4 npx hp)))
theorem l9:‹(1,48,["self"],(SR CW))›:=λD=>by
 specialize fG D.OU.F F4;obtain⟨x,d,s,o,p,aI,rfl,hx,hs,k⟩:=h;exists _,(au (aN (fX D.T.fj (dF (pv 0) rfl))));exists Y,x,CW,d,_,.ref s,rfl,hx,D.kL.cl,D.wU,rfl,s,Y,.inl (bI.of hs);rw[Ky];exact k
theorem DL:‹(2,49,["self","hand","text"],(Xj CW))›:=λD=>by
 specialize fG D.Z0.F rN;obtain⟨S,x,d,s,o,p,n,aI,h,cs,rfl,W,len,nn,k⟩:=h;have hu:=gT hr;exists _,(aj (aU (i:=3) rN.nd (ff (pv 0) D.kL D.OU (l9 D) hr bN)) (aj (wL (pv 0) (cR (AZ rfl) rfl D.T.gu oM (aa (pv 2) ah)) Ih) (aj (wL (pv 0) (bx NR (bM (aa (pv 1) ah)) (b9 vt rfl D.T.fj PySem.boot_len (aa (pv 2) ah))) Ih) (aj (aU (i:=4) rN.nd (cJ (aa (pv 3) (aa (ff (pv 0) D.kL D.OU (l9 D) hr bN) ah)))) (aj (aT (dX qC jX jY bU (OL (dF (pv 0) rfl) (pv 1) (bM ah) ⟨V,V⟩) (aa (pv 4) ah))) (au (aN (pv 4))))))));exists Y,x,d,Y,W.hx,rfl,x,d,s,o,p,aI,rfl,W.hx,W.hs;obtain⟨sx,ss,so,sp,al,hx,hs,ho,ne,kvs,hp,pw⟩:=id W;have nxs:x≠s:=cV hx hs;have nxo:x≠o:=cV hx ho;have nxp:x≠p:=cV hx hp;have nps:p≠s:=cV hp hs;have npo:p≠o:=cV hp ho;refine⟨Y,x,CW,d,_,.ref s,rfl,hx,D.kL.cl,D.wU,rfl,Y,cs,rfl,gM (aR ∅),λt ht=>?_⟩;have a1:aK H (aM H t (.lst (cs.map Ce))):=ak ht _;have b1:(aM H t (.lst (cs.map Ce))) t=some (.lst (cs.map Ce)):=af;generalize aM H t (.lst (cs.map Ce))=H1 at a1 b1;refine⟨s,t,Z,a1 _ _ hs,b1,(by rw[Ky,cz];exact gM (aR ∅)),?_⟩;rw[← SM aI h cs];have k2:cB s H1 (aM H1 s (.lst (QG (aI++pB h cs)))):=aG s _ _;have s2:(aM H1 s (.lst (QG (aI++pB h cs)))) s=some (.lst (QG (aI++pB h cs))):=af;generalize aM H1 s (.lst (QG (aI++pB h cs)))=H2 at k2 s2;have k02:cB s H H2:=λa ob e m=>k2 _ _ (a1 _ _ e) m;have x2:=k02 _ _ hx nxs;refine⟨d,_,x2,(by show 3<1000;decide),?_⟩;have e3:aM H2 x (.ins CW d (L2.d8 "signs" (.ref s) ([("signs",.ref s),("owners",.ref o),("pourings",.ref p)]:List (Str × V))))=H2:=Pz x2;rw[e3];refine⟨Y,x,CW,d,_,.ref o,rfl,x2,D.kL.cl,D.vA,rfl,Y,m6,λt2 Ib=>?_⟩;have a3:aK H2 (aM H2 t2 (.lst [.int h])):=ak Ib _;have b3:(aM H2 t2 (.lst [.int h])) t2=some (.lst [.int h]):=af;generalize aM H2 t2 (.lst [.int h])=H3 at a3 b3;refine⟨Y,fF cs,rfl,(by rw[qc];exact gM (aR ∅)),?_⟩;rw[qc];refine⟨t2,Z,b3,Q,Q,(by simp only[qD];exact gM (aR ∅)),λt3 M8=>?_⟩;rw[Int.toNat_natCast];have a4:aK H3 (aM H3 t3 (.lst (List.replicate cs.length [V.int h]).flatten)):=ak M8 _;have b4:(aM H3 t3 (.lst (List.replicate cs.length [V.int h]).flatten)) t3=some (.lst (List.replicate cs.length [V.int h]).flatten):=af;generalize aM H3 t3 (.lst (List.replicate cs.length [V.int h]).flatten)=H4 at a4 b4;have UK:cB s H H4:=λa ob e m=>a4 _ _ (a3 _ _ (k02 _ _ e m));refine⟨o,t3,Z,UK _ _ ho ne.symm,b4,(by rw[SO,DK,wG];exact gM (aR ∅)),?_⟩;rw[← SN aI h cs];have k5:cB o H4 (aM H4 o (.lst (JS (aI++pB h cs)))):=aG o _ _;have o5:(aM H4 o (.lst (JS (aI++pB h cs)))) o=some (.lst (JS (aI++pB h cs))):=af;generalize aM H4 o (.lst (JS (aI++pB h cs)))=H5 at k5 o5;have k05:∀ a ob,H a=some ob->a≠s->a≠o->H5 a=some ob:=λa ob e m m2=>k5 _ _ (UK _ _ e m) m2;have x5:=k05 _ _ hx nxs nxo;have s5:=k5 _ _ (a4 _ _ (a3 _ _ s2)) ne;refine⟨d,_,x5,(by show 3<1000;decide),?_⟩;have e5:aM H5 x (.ins CW d (L2.d8 "owners" (.ref o) ([("signs",.ref s),("owners",.ref o),("pourings",.ref p)]:List (Str × V))))=H5:=Pz x5;rw[e5]
 have Hf:∀ q,H5 q=none->H q=none:=λq hq=>by
  cases e:H q with
  | none=>rfl
  | some ob =>
   by_cases z1:q=s
   ·rw[z1,s5]at hq;cases hq
   by_cases z2:q=o
   ·rw[z2,o5]at hq;cases hq
   rw[k05 _ _ e z1 z2]at hq;cases hq
 exists Y,Y,x,d,Y,x5,rfl,x,d,s,o,p,Y,x5,s5;refine⟨lF,λq hq=>?_⟩;have a6:aK H5 (aM H5 q (.tup [.int (aI.length:Nat),.int ((aI++pB h cs).length:Nat)])):=ak hq _;have b6:(aM H5 q (.tup [.int (aI.length:Nat),.int ((aI++pB h cs).length:Nat)])) q=some (.tup [.int (aI.length:Nat),.int ((aI++pB h cs).length:Nat)]):=af;generalize aM H5 q (.tup [.int (aI.length:Nat),.int ((aI++pB h cs).length:Nat)])=H6 at a6 b6;have p6:=a6 _ _ (k05 _ _ hp nps npo);have EX:∀ q,H6 q=none->H q=none:=λq hq=>Hf q (aY a6 hq);refine⟨Y,x,CW,d,_,.ref p,rfl,a6 _ _ x5,D.kL.cl,D.oS,rfl,p,rfl,.inl ⟨_,.inl p6⟩,Y,iG,λz hz=>?_⟩;have a7:aK H6 (aM H6 z (.lst [])):=ak hz _;have b7:(aM H6 z (.lst [])) z=some (.lst []):=af;generalize aM H6 z (.lst [])=H7 at a7 b7;have lp:=pw.len;refine⟨kvs,Sum.inl h,a7 _ _ p6,rfl,aR ∅,λv hv=>?_,λhv=>?_⟩
 ·obtain⟨l,row,rfl,Sl,ls,lo,⟨as,hl,pa⟩,ok,sp1,rl⟩:=pw.got h v hv;have k07:∀ a ob,H a=some ob->a≠s->a≠o->H7 a=some ob:=λa ob e m m2=>a7 _ _ (a6 _ _ (k05 _ _ e m m2));have l7:=k07 _ _ hl ls lo;have nxl:x≠l:=cV hx hl;have npl:p≠l:=cV hp hl;have la:=pa.len;refine⟨.inl ⟨rfl,_,bI.of l7⟩,Y,l,Z,l7,(by rw[cz];exact aR ∅),?_⟩;have k8:cB l H7 (aM H7 l (.lst (as.map V.ref++[.ref q]))):=aG l _ _;have l8:(aM H7 l (.lst (as.map V.ref++[.ref q]))) l=some (.lst (as.map V.ref++[.ref q])):=af;generalize aM H7 l (.lst (as.map V.ref++[.ref q]))=H8 at k8 l8;have t07:∀ a xs,H a=some (.tup xs)->H7 a=some (.tup xs):=λa xs e=>k07 _ _ e (cV e hs) (cV e ho);have Xk:∀ a xs,H7 a=some (.tup xs)->H8 a=some (.tup xs):=λa xs e=>k8 _ _ e (cV e l7);have s8:=k8 _ _ (a7 _ _ (a6 _ _ s5)) ls.symm;have o8:=k8 _ _ (a7 _ _ (a6 _ _ o5)) lo.symm;refine⟨Y,k S q H8 ⟨sx,ss,so,sp,λa z=>?_,k8 _ _ (a7 _ _ (a6 _ _ x5)) nxl,s8,o8,ne,kvs,k8 _ _ (a7 _ _ p6) npl,λg v e=>?_,λg e=>?_,pw.one,Q⟩ (Xk _ _ (a7 _ _ b6)) (λa z=>.inl z) (λa ob e m=>?_) (λa xs e=>Xk _ _ (t07 _ _ e))⟩
  ·by_cases z1:a=s
   ·rw[z1];exact⟨_,s8⟩
   by_cases z2:a=o
   ·rw[z2];exact⟨_,o8⟩
   by_cases z3:a=l
   ·rw[z3];exact⟨_,l8⟩
   obtain⟨ob,e⟩:=al a z;exact⟨ob,k8 _ _ (k07 _ _ e z1 z2) z3⟩
  ·by_cases c:g=h
   ·subst c;rw[hv]at e;cases e;exists l,row++([(((aI.length:Nat):Int),(((aI++pB g cs).length:Nat):Int))]:Row),rfl,Sl,ls,lo,⟨as++[q],by rw[gy];exact l8,?_⟩,?_,?_
    ·exact bg.append (pa.tups λa xs e=>Xk _ _ (t07 _ _ e)) (.cons (b:=(((aI.length:Nat):Int),(((aI++pB g cs).length:Nat):Int))) (Xk _ _ (a7 _ _ b6)) .nil)
    ·intro r hr;rcases List.mem_append.mp hr with z|z
     ·exact ok r z
     ·rw[List.mem_singleton.mp z];show ((aI.length:Nat):Int)<=((aI++pB g cs).length:Nat);rw[cP];lia
    ·rw[cU,sp1,nj,xF,Nat.zero_add];congr 1;refine Am _ _ _ ?_;rw[cP,sU];lia
    ·rw[cP];simp only[qD];lia
   ·obtain⟨l',Ff,e1,e2,e3,e4,e5,e6,e7,e8⟩:=pw.got g v e;subst e1;have nl:l'≠l:=λz=>c (pw.one g h _ e (by rw[z];exact hv));refine⟨l',Ff,rfl,e2,e3,e4,e5.two (λxs q=>k8 _ _ (k07 _ _ q e3 e4) nl) (λa xs e=>Xk _ _ (t07 _ _ e)),e6,?_,Q⟩;rw[e7,nj,nu (λz=>c z.symm),gK]
  ·have c:g≠h:=λz=>by rw[z,hv]at e;cases e
   rw[nj,pw.gm g e,nu (λz=>c z.symm),gK]
  ·have z1:a≠s:=λz=>m (by rw[z];exact ss);have z2:a≠o:=λz=>m (by rw[z];exact so);have z3:a≠l:=λz=>m (by rw[z];exact Sl);exact k8 _ _ (k07 _ _ e z1 z2) z3
 ·have fz:H z=none:=EX z hz;have p7:=a7 _ _ p6;have k8:cB p H7 (aM H7 p (.dK (eK kvs (Sum.inl h) (.ref z)))):=aG p _ _;have p8:(aM H7 p (.dK (eK kvs (Sum.inl h) (.ref z)))) p=some (.dK (eK kvs (Sum.inl h) (.ref z))):=af;generalize aM H7 p (.dK (eK kvs (Sum.inl h) (.ref z)))=H8 at k8 p8;have z8:=k8 _ _ b7 (cV b7 p7);refine⟨.inl ⟨rfl,_,bI.of z8⟩,Y,z,Z,z8,(by show 0<sizeLine;decide),?_⟩;have k9:cB z H8 (aM H8 z (.lst ([]++[.ref q]))):=aG z _ _;have z9:(aM H8 z (.lst ([]++[.ref q]))) z=some (.lst ([]++[.ref q])):=af;generalize aM H8 z (.lst ([]++[.ref q]))=H9 at k9 z9;have k69:∀ a ob,H6 a=some ob->a≠p->H9 a=some ob:=λa ob e m=>k9 _ _ (k8 _ _ (a7 _ _ e) m) (az e hz);have Xl:∀ a ob,H a=some ob->a≠s->a≠o->a≠p->H9 a=some ob:=λa ob e m m2 m3=>k69 _ _ (a6 _ _ (k05 _ _ e m m2)) m3;have t69:∀ a xs,H6 a=some (.tup xs)->H9 a=some (.tup xs):=λa xs e=>k69 _ _ e (cV e p6);have t09:∀ a xs,H a=some (.tup xs)->H9 a=some (.tup xs):=λa xs e=>Xl _ _ e (cV e hs) (cV e ho) (cV e hp);have s9:=k69 _ _ (a6 _ _ s5) nps.symm;have o9:=k69 _ _ (a6 _ _ o5) npo.symm;have p9:=k9 _ _ p8 (cV p7 b7)
  have nz:∀ a,S a->a≠z:=λa sa=>by
   obtain⟨ob,e⟩:=al a sa;exact az e fz
  refine⟨Y,k (λa=>S a\/a=z) q H9 ⟨.inl sx,.inl ss,.inl so,.inl sp,λa w=>?_,k69 _ _ (a6 _ _ x5) nxp,s9,o9,ne,_,p9,λg v e=>?_,λg e=>?_,λg g' v e e'=>?_,(by have:=gY kvs (Sum.inl h:eT) (V.ref z);lia)⟩ (t69 _ _ b6) (λa w=>w.imp id λy=>by rw[y];exact fz) (λa ob e m=>?_) (λa xs e=>t09 _ _ e)⟩
  ·rcases w with w|w
   ·by_cases z1:a=s
    ·rw[z1];exact⟨_,s9⟩
    by_cases z2:a=o
    ·rw[z2];exact⟨_,o9⟩
    by_cases z3:a=p
    ·rw[z3];exact⟨_,p9⟩
    obtain⟨ob,e⟩:=al a w;exact⟨ob,Xl _ _ e z1 z2 z3⟩
   ·rw[w];exact⟨_,z9⟩
  ·rw[kJ]at e;by_cases c:g=h
   ·subst c;rw[if_pos rfl]at e;cases e;exists z,([(((aI.length:Nat):Int),(((aI++pB g cs).length:Nat):Int))]:Row),rfl,.inr rfl,(nz _ ss).symm,(nz _ so).symm,⟨[q],z9,.cons (t69 _ _ b6) .nil⟩,?_,?_
    ·intro r hr;rw[List.mem_singleton.mp hr];show ((aI.length:Nat):Int)<=((aI++pB g cs).length:Nat);rw[cP];lia
    ·rw[nj,pw.gm g hv,xF,Nat.zero_add,List.nil_append];refine Am _ _ _ ?_;rw[cP,sU];lia
    ·simp only[qD];lia
   ·rw[if_neg (λz=>c (Sum.inl.inj z))]at e;obtain⟨l',Ff,e1,e2,e3,e4,e5,e6,e7,e8⟩:=pw.got g v e;subst e1;refine⟨l',Ff,rfl,.inl e2,e3,e4,e5.two (λxs q=>Xl _ _ q e3 e4 (cV q hp)) (λa xs e=>t09 _ _ e),e6,?_,Q⟩;rw[e7,nj,nu (λz=>c z.symm),gK]
  ·rw[kJ]at e;have c:g≠h:=λz=>by rw[z,if_pos rfl]at e;cases e
   rw[if_neg (λz=>c (Sum.inl.inj z))]at e;rw[nj,pw.gm g e,nu (λz=>c z.symm),gK]
  ·have other:∀ g v,g≠h->cI kvs (Sum.inl g)=some v->v≠.ref z:=λg v c e y=>by
    obtain⟨l',Ff,e1,e2,_⟩:=pw.got g v e;rw[e1]at y;cases y;exact nz _ e2 rfl
   rw[kJ]at e e';by_cases c:g=h
   ·by_cases c':g'=h
    ·rw[c,c']
    ·rw[c,if_pos rfl]at e;rw[if_neg (λz=>c' (Sum.inl.inj z))]at e';cases e;exact absurd rfl (other _ _ c' e')
   ·rw[if_neg (λz=>c (Sum.inl.inj z))]at e;by_cases c':g'=h
    ·rw[c',if_pos rfl]at e';cases e';exact absurd rfl (other _ _ c e)
    ·rw[if_neg (λz=>c' (Sum.inl.inj z))]at e';exact pw.one _ _ _ e e'
  ·have z1:a≠s:=λz=>m (by rw[z];exact ss);have z2:a≠o:=λz=>m (by rw[z];exact so);have z3:a≠p:=λz=>m (by rw[z];exact sp);exact Xl _ _ e z1 z2 z3
theorem F5(xs:List V){p q:Int}(h:0<=p)(g:0<=q):kC xs (some p) (some q)=(xs.take q.toNat).drop p.toNat:=by
 unfold kC
 have e:∀ r:Int,0<=r->∀ d,HT.i6 xs.length d (some r)=min r.toNat xs.length:=λr hr d=>by
  show (if r<0 then (r+(xs.length:Int)).toNat else min r.toNat xs.length)=_;rw[if_neg ∅]
 rw[e p h,e q g,List.drop_take];rcases Nat.le_total p.toNat xs.length with z|z
 ·rw[Nat.min_eq_left z];rcases Nat.le_total q.toNat xs.length with y|y
  ·rw[Nat.min_eq_left y]
  ·rw[Nat.min_eq_right y,uc (by rw[qO];lia),uc (by rw[qO];lia)]
 ·rw[Nat.min_eq_right z,vg (fH _),vg z];simp
def QH(n:Nat)(p:Int × Int):Bool:=decide (0<=p.1)&&decide (p.1<p.2)&&decide (p.2<=(n:Int))
def rO(n:Nat)(row:Row):Bool:=row.all (QH n)
class inductive SS(C:Addr)
 | mk (S:Addr->Prop) (x d s o p r:Addr) (n:Nat) (aI:iN) (row:Row) (_:vs=[.ref x,.ref r]) (_:We C S H x d s o p n aI) (_:ck H r row) (_:row.length<=1000) (_: ∀ H',aK H H'->Q (.bl (rO aI.length row)) H')
theorem DM:aH ["self","row"] ["self","row"] (aA nJ):=fc
theorem Bc:‹(2,50,["self","row"],(SS CW))›:=λD=>by
 specialize fG D.Z1.F DM;obtain⟨S,x,d,s,o,p,r,n,aI,row,rfl,W,R,len,k⟩:=h;refine⟨_,(au (aN (b9 (LR rfl) rfl D.T.ZD PyProof.Rows.boot_all (aa (gZ (N:=["start","stop","self"]) (nL (sc:=aA nJ) (NX:=["self","row"]) (jx:=[none,none,some 0]) rfl rfl rfl nofun nofun rfl nofun rfl nofun) rfl (cF (pv 1)) (λ_ _ _ _ _ _=>(yV (n:=2) rfl (bT (b8 (i:=0) (show List.Nodup (["start","stop","self"]:List Str) by decide +kernel)) (bT (b8 (i:=1) (show List.Nodup (["start","stop","self"]:List Str) by decide +kernel)) gC)))) (λ_ _ _ _ _ _=>jb) (λ_ _ _ _ _ _=>(LS gn mJ gn ay (pv 0) (pv 1) (ff (pv 2) D.kL D.OU (l9 D) hr bN)))) ah)))),?_⟩;obtain⟨as,jP,pa⟩:=id R;have la:=pa.len;refine⟨Y,r,rfl,⟨_,bI.of jP⟩,λacc cT=>gE (K:=K) (a:=r) (xs:=as.map V.ref) (λi σ H1=>∃ u w:Option V,σ=[u,w,some (.ref x)]/\H1 acc=some (.lst (((row.take i).map (QH aI.length)).map V.bl))/\aK H H1) ⟨none,none,rfl,af,ak cT _⟩ (by rintro i σ H1 _ ⟨_,_,_,_,s⟩;exact bI.of (s _ _ jP)) ?_ ?_⟩
 ·rintro i y σ H1 hi ⟨u,w,rfl,ha,s1⟩;rw[fP]at hi;obtain⟨t,et,rfl⟩:=Option.map_eq_some_iff.mp hi;obtain⟨q,eq,ht⟩:=uO pa et;have W1:=W.same s1;exists t,Y,cY.of (s1 _ _ ht),rfl,P,rfl,Z
  have jN:∀ v:Bool,QH aI.length q=v->∃ ys,H1 acc=some (.lst ys)/\ys.length<sizeLine/\∃ u w:Option V,[some (V.int q.1),some (V.int q.2),some (.ref x)]=[u,w,some (.ref x)]/\(aM H1 acc (.lst (ys++[.bl v]))) acc=some (.lst (((row.take (i+1)).map (QH aI.length)).map V.bl))/\aK H (aM H1 acc (.lst (ys++[.bl v]))):=λv hv=>by
   exists _,ha,?_,P,rfl,?_
   ·rw[cz,cz,gB];exact aR ∅
   ·rw[af,take_snoc eq,gy,gy,← hv];rfl
   ·intro b ob e;rw[aJ (az e cT)];exact s1 _ _ e
  refine⟨Y,Z,Y,cW (λc1=>?_) (λc1=>jN false ?_)⟩
  ·refine⟨Y,Z,Y,cW (λc2=>?_) (λc2=>jN false ?_)⟩
   ·refine⟨Y,x,d,Y,W1.hx,rfl,x,d,s,o,p,aI,rfl,W1.hx,W1.hs,Z,jN _ ?_⟩;unfold QH;rw[c1,c2];rfl
   ·unfold QH;rw[c1,Bool.eq_false_iff.mpr c2];rfl
  ·unfold QH;rw[Bool.eq_false_iff.mpr c1];rfl
 ·rintro σ H1 ⟨u,w,rfl,ha,s1⟩;rw[cz,la,gQ]at ha;exists acc,Y,bI.of ha
  have e:(row.map (QH aI.length)).all id=rO aI.length row:=by
   unfold rO;rw[List.all_map];rfl
  rw[e];exact k H1 s1
theorem Dg.irr{rows:cO}(h:Dg rows){s:Int}:¬ Reach (jO rows) s s:=by
 obtain⟨rk,_,hr⟩:=h
 have key:∀ g,Reach (jO rows) s g->rk g<rk s:=by
  intro g r
  induction r with
  | one e=>exact hr _ _ e
  | step _ e ih=>exact Nat.lt_trans (hr _ _ e) ih
 exact λz=>Nat.lt_irrefl _ (key s z)
structure nQ(rows:cO)(f:Int->Int):Prop where
 len:rows.length<=100
 es:∀ es∈rows,es.length<=1000
 sd:gr rows
 rk:Dg rows
 wt:Weighs rows f
 most:∀ x:Int,0<=x->x<rows.length->f x<=200
class inductive PB
 | mk (r:Addr) (rows:cO) (s:Int) (f:Int->Int) (_:vs=[.ref r,.int s]) (_:gp H r (rows.map aF)) (_:nQ rows f) (_:0<=s) (_:s<rows.length) (_: ∀ H',aK H H'->Q .gm H')
theorem ki:aH ["rows","sheet","way","weights","number"] ["rows","sheet"] (aA pO):=fc
theorem An:‹(4,51,["rows","sheet"],PB)›:=λD=>by
 refine fG D.Z2.F ki λdm A zn s0 H vs Q E hr h=>?_;obtain⟨r,rows,s,f,rfl,hR,B,h0,h1,k⟩:=h;have hu:=gT hr;obtain⟨DN,DO⟩:=D.G.w;have bl:=B.len;exists _,(aj (aU (i:=2) ki.nd (aC D.ZJ (Sn D) hr (aa (pv 0) (aa (pv 1) ah)))) (aj (bP (CL (QO (pv 2))) (au jw) bf) (aj (aU (i:=3) ki.nd (aC D.ZL (xq D) hr (aa (pv 0) (aa (cR (tT rfl) rfl D.T.gu oM (aa (cR Dd rfl D.T.jc PyProof.Rows.boot_range (aa (fX D.T.fj (pv 0)) ah)) ah)) ah)))) (au (dN PassesOwn.never rfl (gJ rfl D.T.jc (aa (fX D.T.fj (pv 0)) ah)) (b8 (i:=4) ki.nd) (au (bP (aV EI (ie hu (pv 3) (pv 4)) (JH (v:=.int 200) rfl DO ⟨DN,rfl⟩) (bh _)) (au jw) bf)))))));refine⟨Y,Y,r,s,rfl,r,rows,s,s,rfl,hR,Q,B.es,B.sd,h0,h1,B.rk.irr,λH1 s1=>?_⟩;refine⟨Y,false,rfl,gh ?_⟩;have hR1:=hR.same s1;obtain⟨vs,jP,al⟩:=id hR1;have lv:vs.length=rows.length:=by rw[al.len,cz]
 refine⟨Y,Y,r,Y,.inl (bI.of jP),Y,λp1 RH=>⟨p1,P,rfl,af,⟨Q,Q,Q,Q⟩,gM (aR ∅),λL hL=>?_⟩⟩;rw[zI,lv,show ((rows.length:Int)-0).toNat=rows.length by lia];rw[lv]at hL;have s2:=s1.trans ((ak RH (.EA 0 ((rows.length:Nat):Int))).trans (ak hL (.lst ((run 0 rows.length).map V.int))));have hL2:(aM (aM H1 p1 (.EA 0 ((rows.length:Nat):Int))) L (.lst ((run 0 rows.length).map V.int))) L=some (.lst ((run 0 rows.length).map V.int)):=af;generalize aM (aM H1 p1 (.EA 0 ((rows.length:Nat):Int))) L (.lst ((run 0 rows.length).map V.int))=H2 at s2 hL2;refine⟨r,L,rows,run 0 rows.length,f,rfl,hR.same s2,hL2,by rw[Kh];lia,Q,B.es,B.sd,B.rk,(λx hx=>by have:=Oz hx;lia),B.wt,λS kvs H3 hS hv s3 _=>?_⟩;have Px:=s2.trans s3;obtain⟨vs3,LX,al3⟩:=hR.same Px;have lv3:vs3.length=rows.length:=by rw[al3.len,cz]
 exists Y,r,Y,.inl (bI.of LX),Y,Q,Q;refine jZ (lo:=0) (n:=((vs3.length:Nat):Int).toNat) (λi σ H4=>∃ u:Option V,σ=[some (.ref r),some (.int s),some .gm,some (.ref S),u]/\aK H H4/\H4 S=some (.dK kvs)) ⟨none,rfl,Px,hS⟩ ?_ ?_
 ·rintro i σ H4 hi ⟨u,rfl,s4,hS4⟩;have il:i<rows.length:=by lia
  have z:=jD.k (k:=Sum.inl (0+(i:Int))) hS4;rw[hv (0+(i:Int)) (by rw[show (0:Int)+(i:Int)=0+i from rfl];exact pA (Kc 0 rows.length i il))]at z;exists Y,Y,S,Y,z,Z,Y;rw[decide_eq_false (show ¬ f (0+(i:Int)) > 200 from λy=>by have:=B.most (0+(i:Int)) ∅ ∅;lia)];exact gh ⟨Y,s4,hS4⟩
 ·rintro σ H4 ⟨u,rfl,s4,_⟩;exact k H4 s4
structure iy(C CS:Addr)(S:Addr->Prop)(H:Hp)(x d wl sh bl kn du bk dS st op:Addr)(bL:lJ)(ops:List Int)(aB:iT):Prop where
 hx:H x=some (.ins C d [("well",.ref wl),("shelf",.ref sh),("blots",.ref bl),("knots",.ref kn),("dues",.ref du),("book",.ref bk)])
 W:Sh CS S H sh dS st op bL ops
 hb:H bk=some (lI aB)
 nx:¬ S x
 nb:¬ S bk
def Fr(S S':Addr->Prop)(bk:Addr)(H H':Hp):Prop:=(∀ a,S' a->S a\/H a=none)/\(∀ a ob,H a=some ob->¬ S a->a≠bk->H' a=some ob)/\∀ a xs,H a=some (.tup xs)->H' a=some (.tup xs)
theorem Fr.same{S S':Addr->Prop}{bk:Addr}{H0 H H':Hp}(s:aK H0 H)(f:Fr S S' bk H H'):Fr S S' bk H0 H' :=
 ⟨λa z=>(f.1 a z).imp id λy=>aY s y,λa ob e n1 n2=>f.2.1 a ob (s _ _ e) n1 n2,λa xs e=>f.2.2 a xs (s _ _ e)⟩
theorem iy.same{S:Addr->Prop}{H H':Hp}{x d wl sh bl du bk st:Addr}{bL:lJ}{ops:List Int}{aB:iT}(L:iy C CS S H x d wl sh bl kn du bk dS st op bL ops aB)(s:aK H H'):iy C CS S H' x d wl sh bl kn du bk dS st op bL ops aB :=
 ⟨s _ _ L.hx,L.W.same s,s _ _ L.hb,L.nx,L.nb⟩
theorem iy.neb{S:Addr->Prop}{H:Hp}{x d wl sh bl du bk st:Addr}{bL:lJ}{ops:List Int}{aB:iT}(L:iy C CS S H x d wl sh bl kn du bk dS st op bL ops aB):x≠bk:=λe=>by
 have z:=L.hx;rw[e,L.hb]at z;cases z
class inductive SV(C CS:Addr)
 | mk (S:Addr->Prop) (x d wl sh bl kn du bk dS st op:Addr) (bL:lJ) (ops:List Int) (aB:iT) (_:vs=[.ref x]) (_:iy C CS S H x d wl sh bl kn du bk dS st op bL ops aB) (_:Q (.int (ops.length:Nat)) H)
class inductive SX(C CS:Addr)
 | mk (S:Addr->Prop) (x d wl sh bl kn du bk dS st op:Addr) (bL:lJ) (ops:List Int) (aB:iT) (dd c:Addr) (e:jK) (cs:List Addr) (qv:List (Nat × List aQ)) (last:List (List aQ)) (_:vs=[.ref x,.ref dd,.ref c]) (_:iy C CS S H x d wl sh bl kn du bk dS st op bL ops aB) (_:e.At H dd) (_:e.Ok) (_:H c=some (.lst (cs.map V.ref))) (_:c≠bk) (_:cu (IQ H) cs qv) (_:(∀ a∈cs,∀ (s:Int) (r:Addr),H a=some (.tup [.int s,.ref r])->r≠bk)) (_:bL.getLast?=some last) (_:Xf last qv) (_:qv.length<=200) (_:last.length<=500) (_:bL.length<=1000) (_:aB.length<=1000) (_ :
 ∀ (S':Addr->Prop) (H':Hp),iy C CS S' H' x d wl sh bl kn du bk dS st op (bL++[l6 last qv]) (ops++List.replicate ((l6 last qv).length-last.length) ((bL.length:Nat):Int)) (aB++[e.line])->Fr S S' bk H H'->Q .gm H')
theorem yH:aH ["self","deed","changes"] ["self","deed","changes"] (aA mQ):=fc
theorem Ao:aH ["self"] ["self"] (aA n8):=fc
theorem yI:‹(2,55,["self"],(SV C CS))›:=λD=>by
 specialize fG D.Z3.F Ao;obtain⟨S,x,d,wl,sh,bl,kn,du,bk,dS,st,op,bL,ops,aB,rfl,L,k⟩:=h;exists _,(au (aN (ff (dF (pv 0) rfl) D.cH D.WE (tW D) hr bN)));exact⟨Y,x,C,d,_,.ref sh,rfl,L.hx,D.aO.cl,D.eY,rfl,sh,dS,Y,L.W.hx,rfl,S,sh,dS,st,op,bL,ops,rfl,L.W,k⟩
theorem j6:‹(3,53,["self","deed","changes"],(SX C CS))›:=λD=>by
 specialize fG D.RW.F yH;obtain⟨S,x,d,wl,sh,bl,kn,du,bk,dS,st,op,bL,ops,aB,dd,c,e,cs,qv,last,rfl,L,de,ok,hc,ncb,al,nr,hl,oc,l1,l2,l3,l4,k⟩:=h;exists _,(aj (aT (dX qC jX jY bU (dF (pv 0) rfl) (aa (aC D.ZR (Ba D) hr (aa (pv 1) ah)) ah))) (au (aT (cL (dF (pv 0) rfl) D.cH D.ZT (Bb D) hr bN (aa (pv 2) ah)))));refine⟨Y,x,C,d,_,.ref bk,rfl,L.hx,D.aO.cl,D.EO,rfl,.inl ⟨rfl,_,bI.of L.hb⟩,Y,dd,e,rfl,de,ok,IM ok,λH1 s1=>?_⟩;refine⟨bk,Z,s1 _ _ L.hb,aR (by rw[cz];lia),?_⟩;have e2:(aB.map λw=>V.str (fF w))++[V.str (fF e.line)]=(aB++[e.line]).map λw=>V.str (fF w):=by rw[gy];rfl
 rw[e2]
 have k2:cB bk H (aM H1 bk (lI (aB++[e.line]))):=λa o q n=>by
  rw[aJ n];exact s1 _ _ q
 have QC:(aM H1 bk (lI (aB++[e.line]))) bk=some (lI (aB++[e.line])):=af
 have fr2:∀ a,(aM H1 bk (lI (aB++[e.line]))) a=none->H a=none:=λa q=>by
  by_cases z:a=bk
  ·rw[z,af]at q;cases q
  ·rw[aJ z]at q;exact aY s1 q
 generalize aM H1 bk (lI (aB++[e.line]))=H2 at k2 QC fr2;have t2:∀ a xs,H a=some (.tup xs)->H2 a=some (.tup xs):=λa xs q=>k2 _ _ q (cV q L.hb);have W2:Sh CS S H2 sh dS st op bL ops:=L.W.keep L.hb L.nb k2;have x2:=k2 _ _ L.hx L.neb;refine⟨Y,x,C,d,_,.ref sh,rfl,x2,D.aO.cl,D.eY,rfl,sh,dS,Y,W2.hx,rfl,Y,S,sh,dS,st,op,c,bL,ops,cs,qv,last,rfl,W2,k2 _ _ hc ncb,?_,hl,oc,l1,l2,l3,λS' H3 W3 sub fr tp=>?_⟩
 ·have key:∀ {as:List Addr} {ds:List (Nat × List aQ)},cu (IQ H) as ds->(∀ a∈as,a∈cs)->cu (IQ H2) as ds:=by
   intro as ds q
   induction q with
   | nil=>intro _;exact .nil
   | cons o t ih =>
    intro sub;refine .cons ?_ (ih λa ha=>sub a (mE _ ha));obtain⟨r,ha,it⟩:=o;have nrb:=nr _ (sub _ List.mem_cons_self) _ r ha;exact⟨r,t2 _ _ ha,it.fr (λxs q=>k2 _ _ q nrb) t2⟩
  exact key al λ_ z=>z
 ·refine k S' H3 ⟨fr _ _ x2 L.nx,W3,fr _ _ QC L.nb,λz=>?_,λz=>?_⟩ ⟨λa z=>(sub a z).imp id λq=>fr2 a q,λa ob q n n'=>fr _ _ (k2 _ _ q n') n,λa xs q=>tp _ _ (t2 _ _ q)⟩
  ·rcases sub _ z with q|q
   ·exact L.nx q
   ·rw[x2]at q;cases q
  ·rcases sub _ z with q|q
   ·exact L.nb q
   ·rw[QC]at q;cases q
abbrev jQ(pe:iS):lJ:=pe.map λrows=>rows.map aF
def iZ(rows:cO)(s:Nat)(es:List Int):cO:=rows.take s++[es]++rows.drop (s+1)
theorem SY(rows:cO)(s:Nat)(es:List Int):l6 (rows.map aF) [(s,aF es)]=(iZ rows s es).map aF:=by
 show (rows.map aF).take s++[aF es]++(rows.map aF).drop (s+1)=_;unfold iZ;rw[gy,gy,List.map_take,List.map_drop];rfl
theorem F6{rows:cO}{s:Nat}{es:List Int}(h:s<=rows.length):(iZ rows s es).length=if s=rows.length then rows.length+1 else rows.length:=by
 unfold iZ;rw[cP,cP,gB,qO];show min s rows.length+1+_=_
 split <;> lia
def PD(ops:List Int)(n s m:Nat):List Int:=ops++if s=n then [(m:Int)] else []
theorem Xm{rows:cO}{s:Nat}{es:List Int}{ops:List Int}{m:Nat}(h:s<=rows.length):ops++List.replicate (((iZ rows s es).map aF).length-(rows.map aF).length) (m:Int)=PD ops rows.length s m:=by
 rw[cz,cz,F6 h];unfold PD;by_cases c:s=rows.length
 ·rw[if_pos c,if_pos c,show rows.length+1-rows.length=1 by lia];rfl
 ·rw[if_neg c,if_neg c,Nat.sub_self];rfl
class inductive PF(C CS:Addr)
 | mk (S:Addr->Prop) (x d wl sh bl kn du bk dS st op:Addr) (pe:iS) (ops:List Int) (aB:iT) (dd r:Addr) (e:jK) (s:Nat) (es:List Int) (rows:cO) (f:Int->Int) (_:vs=[.ref x,.ref dd,.int (s:Nat),.ref r]) (_:iy C CS S H x d wl sh bl kn du bk dS st op (jQ pe) ops aB) (_:e.At H dd) (_:e.Ok) (_:bz H (.ref r) (aF es)) (_:r≠bk) (_:pe.getLast?=some rows) (_:s<=rows.length) (_:rows.length<=50) (_:pe.length<=900) (_:aB.length<=900) (_:nQ (iZ rows s es) f) (_ :
 ∀ (S':Addr->Prop) (H':Hp),iy C CS S' H' x d wl sh bl kn du bk dS st op (jQ (pe++[iZ rows s es])) (PD ops rows.length s pe.length) (aB++[e.line])->Fr S S' bk H H'->Q .gm H')
theorem xH:aH ["self","deed","sheet","items"] ["self","deed","sheet","items"] (aA lC):=fc
theorem d7{pe:iS}{rows:cO}(h:pe.getLast?=some rows):(jQ pe).getLast?=some (rows.map aF):=by
 rw[List.getLast?_map,h];rfl
theorem PJ{H H':Hp}{rs:List Addr}{rows:List (List aQ)}{r:Addr}{aL:List aQ}{s:Nat}(al:cu (λq i=>bz H' (.ref q) i) rs rows)(it:bz H' (.ref r) aL):cu (bz H') ((rs.map V.ref).take s++[.ref r]++(rs.map V.ref).drop (s+1)) (rows.take s++[aL]++rows.drop (s+1)):=by
 have key:cu (bz H') (rs.map V.ref) rows:=by
  induction al with
  | nil=>exact .nil
  | cons o t ih=>exact .cons o ih
 exact ((key.take s).app (.cons it .nil)).app (key.drop (s+1))
theorem dQ:‹(5,54,["self","deed","sheet","items"],(PF C CS))›:=λD=>by
 specialize fG D.Fq.F xH;obtain⟨S,x,d,wl,sh,bl,kn,du,bk,dS,st,op,pe,ops,aB,dd,r,e,s,es,rows,f,rfl,L,de,ok,hi,nrb,hl,sl,l1,l2,l3,B,k⟩:=h;have tX:=d7 hl;have lp:(jQ pe).length=pe.length:=cz _
 have lo:ops.length=rows.length:=by
  obtain⟨last,z1,z2⟩:=L.W.QF.Cu;rw[tX]at z1;cases z1;rw[z2,cz]
 exists _,(aj (aT (aC D.Z2 (An D) hr (aa (aC D.WD (Ak D) hr (aa (ff (dF (pv 0) rfl) D.cH D.A2 (eE D) hr bN) (aa (pv 2) (aa (pv 3) ah)))) (aa (pv 2) ah)))) (au (aT (cL (pv 0) D.aO D.RW (j6 D) hr bN (aa (pv 1) (aa (bM (aa (cJ (aa (pv 2) (aa (pv 3) ah))) ah)) ah))))));refine⟨Y,x,C,d,_,.ref sh,rfl,L.hx,D.aO.cl,D.eY,rfl,sh,dS,Y,L.W.hx,rfl,S,sh,dS,st,op,jQ pe,ops,rfl,L.W,⟨Q,Q⟩,λUL el q H1 fs s1=>?_⟩;rw[tX]at el;cases el;obtain⟨fq,rs,hq,al⟩:=fs;have lr:rs.length=rows.length:=by rw[al.len,cz]
 have hi1:=hi.same s1;have L1:=L.same s1;refine⟨Y,Y,q,r,_,s,rfl,hq,by rw[cz,lr];exact sl,by rw[cz,lr];lia,λp2 H2 Uj s2 f2=>?_⟩
 refine⟨Y,p2,iZ rows s es,(s:Int),f,rfl,⟨_,Uj,?_⟩,B,Q,by rw[F6 sl];split <;> lia,λH3 s3=>?_⟩
 ·have z:=PJ (H:=H) (H':=H2) (s:=s) (al.mono λq' i' w'=>(w'.2.2).same s2) (hi1.same s2)
  have e':(rows.map aF).take s++[aF es]++(rows.map aF).drop (s+1)=(iZ rows s es).map aF:=by
   unfold iZ;rw[gy,gy,List.map_take,List.map_drop];rfl
  rw[e']at z;exact z
 have ve:=s1.trans (s2.trans s3);have L3:=L.same ve;refine⟨Y,x,d,Y,L3.hx,rfl,Y,Y,Y,lF,λt ht=>⟨m6,λc hc=>?_⟩⟩;have s4:aK H3 (aM (aM H3 t (.tup [.int (s:Nat),.ref r])) c (.lst [.ref t])):=(ak ht _).trans (ak hc _);have ht4:(aM (aM H3 t (.tup [.int (s:Nat),.ref r])) c (.lst [.ref t])) t=some (.tup [.int (s:Nat),.ref r]):=ak hc _ _ _ af;have hc4:(aM (aM H3 t (.tup [.int (s:Nat),.ref r])) c (.lst [.ref t])) c=some (.lst ([t].map V.ref)):=af
 have nc:c≠bk:=λz=>by
  have:=ak ht (.tup [.int (s:Nat),.ref r]) _ _ L3.hb;rw[← z,hc]at this;cases this
 generalize aM (aM H3 t (.tup [.int (s:Nat),.ref r])) c (.lst [.ref t])=H4 at s4 ht4 hc4;have DP:=ve.trans s4;refine⟨S,x,d,wl,sh,bl,kn,du,bk,dS,st,op,jQ pe,ops,aB,dd,c,e,[t],[(s,aF es)],rows.map aF,rfl,L.same DP,de.same DP,ok,hc4,nc,.cons ⟨r,ht4,hi.same DP⟩ .nil,?_,tX,?_,(by show 1<=200;decide),by rw[cz];lia,Q,Q,λS' H' L' fr=>?_⟩
 ·intro a ha s' r' e';rw[List.mem_singleton.mp ha,ht4]at e';cases e';exact nrb
 ·intro i ch ei
  match i,ei with
  | 0,ei =>
   cases ei;show s<=(rows.map aF).length;rw[cz];exact sl
  | i+1,ei=>cases ei
 ·rw[SY,Xm sl,lp]at L';refine k S' H' ?_ (fr.same DP)
  have ep:jQ (pe++[iZ rows s es])=jQ pe++[(iZ rows s es).map aF]:=by
   show (pe++[iZ rows s es]).map _=_;rw[gy];rfl
  rw[ep];exact L'
class inductive S0(C CS:Addr)
 | mk (S:Addr->Prop) (x d wl sh bl kn du bk dS st op:Addr) (pe:iS) (ops:List Int) (aB:iT) (dd r:Addr) (e:jK) (es:List Int) (rows:cO) (_:vs=[.ref x,.ref dd,.ref r]) (_:iy C CS S H x d wl sh bl kn du bk dS st op (jQ pe) ops aB) (_:e.At H dd) (_:e.Ok) (_:bz H (.ref r) (aF es)) (_:r≠bk) (_:pe.getLast?=some rows) (_:rows.length<=50) (_:pe.length<=900) (_:aB.length<=900) (_:rows.length<40) (_:((∃ f,nQ (rows++[es]) f)/\∀ (S':Addr->Prop) (H':Hp),iy C CS S' H' x d wl sh bl kn du bk dS st op (jQ (pe++[rows++[es]])) (ops++[((pe.length:Nat):Int)]) (aB++[e.line])->Fr S S' bk H H'->Q (.int (rows.length:Nat)) H'))
theorem qw:aH ["self","deed","items","sheet"] ["self","deed","items"] (aA mR):=fc
theorem F7(rows:cO)(es:List Int):iZ rows rows.length es=rows++[es]:=by
 unfold iZ;rw[gQ,vg ∅,gK]
theorem kj{S:Addr->Prop}{H:Hp}{x d wl sh bl du bk st:Addr}{pe:iS}{ops:List Int}{aB:iT}{rows:cO}(L:iy C CS S H x d wl sh bl kn du bk dS st op (jQ pe) ops aB)(hl:pe.getLast?=some rows):ops.length=rows.length:=by
 obtain⟨last,z1,z2⟩:=L.W.QF.Cu;rw[d7 hl]at z1;cases z1;rw[z2,cz]
theorem xJ:‹(6,56,["self","deed","items"],(S0 C CS))›:=λD=>by
 obtain⟨DQ,DR⟩:=D.G.s;specialize fG D.Z4.F qw;obtain⟨S,x,d,wl,sh,bl,kn,du,bk,dS,st,op,pe,ops,aB,dd,r,e,es,rows,rfl,L,de,ok,hi,nrb,hl,l1,l2,l3,lt,k2⟩:=h;have lo:=kj L hl;exists _,(aj (aU (i:=3) qw.nd (ff (pv 0) D.aO D.Z3 (yI D) hr bN)) (aj (bP (aV T8 (pv 3) (JH (v:=.int 40) rfl DR ⟨DQ,rfl⟩) (bh _)) (au jw) bf) (aj (aT (cL (pv 0) D.aO D.Fq (dQ D) hr bN (aa (pv 1) (aa (pv 3) (aa (pv 2) ah))))) (au (aN (pv 3))))));exists Y,x,d,Y,L.hx,rfl,S,x,d,wl,sh,bl,kn,du,bk,dS,st,op,jQ pe,ops,aB,rfl,L;rw[lo];refine⟨Y,Z,Y,cW (λc=>?_) (λc=>?_)⟩
 ·exact absurd (of_decide_eq_true c) ∅
 ·obtain⟨⟨f,B⟩,k3⟩:=k2;refine⟨Y,x,d,Y,L.hx,rfl,Y,Y,Y,S,x,d,wl,sh,bl,kn,du,bk,dS,st,op,pe,ops,aB,dd,r,e,rows.length,es,rows,f,rfl,L,de,ok,hi,nrb,hl,fH _,l1,l2,l3,by rw[F7];exact B,λS' H' L' fr=>?_⟩;rw[F7]at L';have eo:PD ops rows.length rows.length pe.length=ops++[((pe.length:Nat):Int)]:=by unfold PD;rw[if_pos rfl]
  rw[eo]at L';exact⟨Y,k3 S' H' L' fr⟩
abbrev frW:List Nat:=(Str.ofString "fresh").cps.toList
theorem PK:(jK.plain frW []).Ok:=⟨by decide +kernel,λ_ z=>by cases z⟩
class inductive Kz(C CS:Addr)
 | mk (S:Addr->Prop) (x d wl sh bl kn du bk dS st op:Addr) (pe:iS) (ops:List Int) (aB:iT) (rows:cO) (_:vs=[.ref x]) (_:iy C CS S H x d wl sh bl kn du bk dS st op (jQ pe) ops aB) (_:pe.getLast?=some rows) (_:rows.length<=50) (_:pe.length<=900) (_:aB.length<=900) (_:rows.length<40) (_:((∃ f,nQ (rows++[[]]) f)/\∀ (S':Addr->Prop) (H':Hp),iy C CS S' H' x d wl sh bl kn du bk dS st op (jQ (pe++[rows++[[]]])) (ops++[((pe.length:Nat):Int)]) (aB++[(jK.plain frW []).line])->Fr S S' bk H H'->Q (.int (rows.length:Nat)) H'))
theorem yJ:aH ["self"] ["self"] (aA mS):=fc
theorem oX:‹(7,57,["self"],(Kz C CS))›:=λD=>by
 specialize fG D.RX.F yJ;obtain⟨S,x,d,wl,sh,bl,kn,du,bk,dS,st,op,pe,ops,aB,rows,rfl,L,hl,l1,l2,l3,lt,k2⟩:=h;exists _,(au (aN (cL (pv 0) D.aO D.Z4 (xJ D) hr bN (aa (cJ (aa bH ah)) (aa (bM ah) ah)))));refine⟨Y,x,d,Y,L.hx,rfl,m6,λt ht=>⟨iG,λr ye=>?_⟩⟩;have s1:aK H (aM (aM H t (.tup [.str "fresh"])) r (.lst [])):=(ak ht _).trans (ak ye _);have ht1:(aM (aM H t (.tup [.str "fresh"])) r (.lst [])) t=some (.tup [.str "fresh"]):=ak ye _ _ _ af;have jP:(aM (aM H t (.tup [.str "fresh"])) r (.lst [])) r=some (.lst []):=af
 have nr:r≠bk:=λz=>by
  have:=ak ht (.tup [.str "fresh"]) _ _ L.hb;rw[← z,ye]at this;cases this
 generalize aM (aM H t (.tup [.str "fresh"])) r (.lst [])=H1 at s1 ht1 jP;exists S,x,d,wl,sh,bl,kn,du,bk,dS,st,op,pe,ops,aB,t,r,.plain frW [],[],rows,rfl,L.same s1,by show H1 t=_;rw[ht1,rH];rfl,PK,⟨r,[],rfl,jP,.nil⟩,nr,hl,l1,l2,l3,lt;obtain⟨B,k3⟩:=k2;exact⟨B,λS' H' L' fr=>k3 S' H' L' (fr.same s1)⟩
theorem j7{H H1:Hp}{dw:Addr}{o:HO}(h1:H xw=none)(h2:H dw=none)(k:cB xw (aM (aM H dw (.own xw)) xw o) H1):aK H H1:=λa ob e=>k a ob (by rw[aJ (az e h1),aJ (az e h2)];exact e) (az e h1)
theorem Sh.kU{S:Addr->Prop}{H H':Hp}{x d st l:Addr}{bL:lJ}{ops:List Int}{fs:List (Str × V)}(h:Sh C S H x d st op bL ops)(hl:H l=some (.ins C' d' fs))(nl:¬ S l)(k:cB l H H'):Sh C S H' x d st op bL ops :=
 h.fr (λa ob e z=>k a ob e (λq=>nl (by rw[← q];exact z))) (λa xs e=>k _ _ e (cV e hl))
structure Seen(rows:cO)(sh:Int->List Int):Prop where
 es:∀ es∈rows,es.length<=1000
 sd:gr rows
 rk:Dg rows
 ss:m9 rows sh
 ln:∀ x:Int,0<=x->x<rows.length->(sh x).length<=10000
class inductive PL(C CS:Addr)
 | mk (S:Addr->Prop) (x d wl sh bl kn du bk dS st op:Addr) (pe:iS) (ops:List Int) (aB:iT) (rows:cO) (s:Int) (_:vs=[.ref x,.int s]) (_:iy C CS S H x d wl sh bl kn du bk dS st op (jQ pe) ops aB) (_:pe.getLast?=some rows) (_:rows.length<=50) (_:pe.length<=900) (_:sS rows.length s) (_:(∃ f,Seen rows f/\∀ (o:Addr) (H':Hp),ck H' o (cK (f s))->aK H H'->H o=none->Q (.ref o) H'))
theorem yK:aH ["self","sheet"] ["self","sheet"] (aA mT):=fc
theorem iJ:‹(5,62,["self","sheet"],(PL C CS))›:=λD=>by
 specialize fG D.OV.F yK;obtain⟨S,x,d,wl,sh,bl,kn,du,bk,dS,st,op,pe,ops,aB,rows,s,rfl,L,hl,l1,l2,ia,k2⟩:=h;have lo:=kj L hl;have lp:(jQ pe).length=pe.length:=cz _;have tX:=d7 hl;exists _,(aj (aT (cL (dF (pv 0) rfl) D.cH D.Dr (cE D) hr bN (aa (pv 1) ah))) (au (aN (fO.vI D.OT (D.T.rJ _ D.OT.m) (FF D) hr (aa (ff (dF (pv 0) rfl) D.cH D.A2 (eE D) hr bN) (aa (pv 1) ah))))));refine⟨Y,x,C,d,_,.ref sh,rfl,L.hx,D.aO.cl,D.eY,rfl,sh,dS,Y,L.W.hx,rfl,Y,S,sh,dS,st,op,jQ pe,ops,s,rfl,L.W,by rw[lo];exact ia,?_⟩;obtain⟨f0,sn,k3⟩:=k2;refine⟨Y,x,C,d,_,.ref sh,rfl,L.hx,D.aO.cl,D.eY,rfl,sh,dS,Y,L.W.hx,rfl,S,sh,dS,st,op,jQ pe,ops,rfl,L.W,⟨Q,Q⟩,λUL el q H1 S9 s1=>?_⟩;rw[tX]at el;cases el;obtain⟨fq,rs,hq,al⟩:=S9
 have hR:gp H1 q (rows.map aF):=by
  exists rs.map V.ref,hq
  have key:∀ {as:List Addr} {ds:List (List aQ)},cu (λr aL=>H r=none/\r≠q/\bz H1 (.ref r) aL) as ds->cu (bz H1) (as.map V.ref) ds:=by
   intro as ds z
   induction z with
   | nil=>exact .nil
   | cons o t ih=>exact .cons o.2.2 ih
  exact key al
 exact⟨Y,q,rows,s,f0,rfl,hR,Q,sn.es,sn.sd,sn.rk,ia.1,ia.2,sn.ss,sn.ln,λo H2 ho s2 fo=>k3 o H2 ho (s1.trans s2) (aY s1 fo)⟩
theorem iy.fr{S:Addr->Prop}{H H':Hp}{x d wl sh bl du bk st:Addr}{bL:lJ}{ops:List Int}{aB:iT}(L:iy C CS S H x d wl sh bl kn du bk dS st op bL ops aB)(k:∀ a ob,H a=some ob->(S a\/a=bk\/a=x)->H' a=some ob)(t:∀ a xs,H a=some (.tup xs)->H' a=some (.tup xs)):iy C CS S H' x d wl sh bl kn du bk dS st op bL ops aB :=
 ⟨k _ _ L.hx (.inr (.inr rfl)),L.W.fr (λa ob e z=>k a ob e (.inl z)) t,k _ _ L.hb (.inr (.inl rfl)),L.nx,L.nb⟩
structure Bd(C CS CW CB:Addr)(U S SW:Addr->Prop)(H:Hp)(x d wl sh bl kn du bk dS st op dw sg ow pw db tb:Addr)(pe:iS)(ops:List Int)(aB:iT)(aI:iN)(nW:Nat)(bO:Row):Prop where
 L:iy C CS S H x d wl sh bl kn du bk dS st op (jQ pe) ops aB
 W:We CW SW H wl dw sg ow pw nW aI
 B:Bl CB H bl db tb
 R:ck H tb bO
 Fx:LP bO
 dj:∀ a,SW a->¬ S a/\a≠bk/\a≠x
 db:¬ S bl/\¬ SW bl/\bl≠bk
 dt:¬ S tb/\¬ SW tb/\tb≠bk
 u:∀ a,U a↔S a\/SW a\/a=bk\/a=x\/a=bl\/a=tb
inductive oG(C CS CW CB:Addr)(U:Addr->Prop)(H:Hp)(x:Addr)(pe:iS)(aB:iT)(aI:iN)(nW:Nat)(bO:Row):Prop
 | mk (S SW:Addr->Prop) (d wl sh bl kn du bk dS st op dw sg ow pw db tb:Addr) (ops:List Int) (_:Bd C CS CW CB U S SW H x d wl sh bl kn du bk dS st op dw sg ow pw db tb pe ops aB aI nW bO)
def Ew(U U':Addr->Prop)(H H':Hp):Prop:=(∀ a,U' a->U a\/H a=none)/\(∀ a ob,H a=some ob->¬ U a->H' a=some ob)/\∀ a xs,H a=some (.tup xs)->H' a=some (.tup xs)
theorem Ew.pre{U U':Addr->Prop}{H0 H H':Hp}(s:aK H0 H)(f:Ew U U' H H'):Ew U U' H0 H':=⟨λa z=>(f.1 a z).imp id λy=>aY s y,λa ob e n=>f.2.1 a ob (s _ _ e) n,λa xs e=>f.2.2 a xs (s _ _ e)⟩
theorem Bd.fr{U S SW:Addr->Prop}{H H':Hp}{x d wl sh bl du bk st dw pw db:Addr}{pe:iS}{ops:List Int}{aB:iT}{aI:iN}{nW:Nat}{bO:Row}(h:Bd C CS CW CB U S SW H x d wl sh bl kn du bk dS st op dw sg ow pw db tb pe ops aB aI nW bO)(k:∀ a ob,H a=some ob->U a->H' a=some ob)(t:∀ a xs,H a=some (.tup xs)->H' a=some (.tup xs)):Bd C CS CW CB U S SW H' x d wl sh bl kn du bk dS st op dw sg ow pw db tb pe ops aB aI nW bO:=by
 obtain⟨L,W,B,R,Fx,dj,db',dt,u⟩:=h;refine⟨L.fr (λa ob e z=>k a ob e ((u a).mpr ?_)) t,W.fr (λa ob e z=>k a ob e ((u a).mpr (.inr (.inl z)))) t,k _ _ B ((u _).mpr (.inr (.inr (.inr (.inr (.inl rfl)))))),R.two (λxs e=>k _ _ e ((u _).mpr (.inr (.inr (.inr (.inr (.inr rfl))))))) t,Fx,dj,db',dt,u⟩;rcases z with z|z|z
 ·exact .inl z
 ·exact .inr (.inr (.inl z))
 ·exact .inr (.inr (.inr (.inl z)))
theorem Bd.same{U S SW:Addr->Prop}{H H':Hp}{x d wl sh bl du bk st dw pw db:Addr}{pe:iS}{ops:List Int}{aB:iT}{aI:iN}{nW:Nat}{bO:Row}(h:Bd C CS CW CB U S SW H x d wl sh bl kn du bk dS st op dw sg ow pw db tb pe ops aB aI nW bO)(s:aK H H'):Bd C CS CW CB U S SW H' x d wl sh bl kn du bk dS st op dw sg ow pw db tb pe ops aB aI nW bO:=h.fr (λa ob e _=>s a ob e) λa xs e=>s _ _ e
theorem oG.fr{U:Addr->Prop}{H H':Hp}{x:Addr}{pe:iS}{aB:iT}{aI:iN}{nW:Nat}{bO:Row}(h:oG C CS CW CB U H x pe aB aI nW bO)(k:∀ a ob,H a=some ob->U a->H' a=some ob)(t:∀ a xs,H a=some (.tup xs)->H' a=some (.tup xs)):oG C CS CW CB U H' x pe aB aI nW bO:=by
 obtain⟨S,SW,d,wl,sh,bl,kn,du,bk,dS,st,op,dw,sg,ow,pw,db,tb,ops,z⟩:=h;exact⟨S,SW,d,wl,sh,bl,kn,du,bk,dS,st,op,dw,sg,ow,pw,db,tb,ops,z.fr k t⟩
theorem oG.same{U:Addr->Prop}{H H':Hp}{x:Addr}{pe:iS}{aB:iT}{aI:iN}{nW:Nat}{bO:Row}(h:oG C CS CW CB U H x pe aB aI nW bO)(s:aK H H'):oG C CS CW CB U H' x pe aB aI nW bO:=h.fr (λa ob e _=>s a ob e) λa xs e=>s _ _ e
theorem Bd.ko{U S S' SW:Addr->Prop}{H H':Hp}{x d wl sh bl du bk st dw pw db:Addr}{pe M9:iS}{ops DS:List Int}{aB dG:iT}{aI:iN}{nW:Nat}{bO:Row}(h:Bd C CS CW CB U S SW H x d wl sh bl kn du bk dS st op dw sg ow pw db tb pe ops aB aI nW bO)(L':iy C CS S' H' x d wl sh bl kn du bk dS st op (jQ M9) DS dG)(fr:Fr S S' bk H H'):∃ U',oG C CS CW CB U' H' x M9 dG aI nW bO/\Ew U U' H H':=by
 obtain⟨L,W,B,R,Fx,dj,db',dt,u⟩:=h;obtain⟨as,hR,_⟩:=id R
 have nS':∀ a ob,H a=some ob->¬ S a->¬ S' a:=λa ob e n z=>by
  rcases fr.1 a z with y|y
  ·exact n y
  ·rw[e]at y;cases y
 refine⟨λa=>S' a\/SW a\/a=bk\/a=x\/a=bl\/a=tb,⟨S',SW,d,wl,sh,bl,kn,du,bk,dS,st,op,dw,sg,ow,pw,db,tb,DS,L',W.fr (λa ob e z=>fr.2.1 _ _ e (dj a z).1 (dj a z).2.1) fr.2.2,fr.2.1 _ _ B db'.1 db'.2.2,R.two (λxs e=>fr.2.1 _ _ e dt.1 dt.2.2) fr.2.2,Fx,λa z=>?_,⟨nS' _ _ B db'.1,db'.2⟩,⟨nS' _ _ hR dt.1,dt.2⟩,λa=>Iff.rfl⟩,λa z=>?_,λa ob e n=>?_,fr.2.2⟩
 ·obtain⟨ob,e⟩:=W.al a z;exact⟨nS' _ _ e (dj a z).1,(dj a z).2⟩
 ·rcases z with z|z
  ·exact (fr.1 a z).imp (λy=>(u a).mpr (.inl y)) id
  ·exact .inl ((u a).mpr (.inr z))
 ·exact fr.2.1 a ob e (λz=>n ((u a).mpr (.inl z))) (λz=>n ((u a).mpr (.inr (.inr (.inl z)))))
class inductive KC(C CS CW CB:Addr)
 | mk (U:Addr->Prop) (x:Addr) (pe:iS) (aB:iT) (aI:iN) (nW:Nat) (bO:Row) (h:Int) (cs:List Nat) (rows:cO) (_:vs=[.ref x,.int h,.str (fF cs)]) (_:oG C CS CW CB U H x pe aB aI nW bO) (_:qI h) (_:cs.length<=200) (_:aI.length<=90000) (_:nW<=900) (_:pe.getLast?=some rows) (_:rows.length<=50) (_:pe.length<=900) (_:aB.length<=900) (_ :
 ∀ (U':Addr->Prop) (q:Addr) (H':Hp),oG C CS CW CB U' H' x (pe++[rows]) (aB++[(jK.A9 h cs).line]) (aI++pB h cs) (nW+1) bO->Ew U U' H H'->H' q=some (.tup [.int (aI.length:Nat),.int ((aI++pB h cs).length:Nat)])->Q (.ref q) H')
theorem rP:aH ["self","hand","text","stretch"] ["self","hand","text"] (aA n9):=fc
theorem qx:‹(4,60,["self","hand","text"],(KC C CS CW CB))›:=λD=>by
 specialize fG D.RY.F rP;obtain⟨U,x,pe,aB,aI,nW,bO,h,cs,rows,rfl,⟨S,SW,d,wl,sh,bl,kn,du,bk,dS,st,op,dw,sg,ow,pw,db,tb,ops,LU⟩,fh,lc,li,ln,hl,l1,l2,l3,k⟩:=h;obtain⟨L,W,B,R,Fx,dj,db',dt,u⟩:=id LU;exists _,(aj (aU (i:=3) rP.nd (cL (dF (pv 0) rfl) D.kL D.Z0 (DL D) hr bN (aa (pv 1) (aa (pv 2) ah)))) (aj (aT (cL (pv 0) D.aO D.RW (j6 D) hr bN (aa (cJ (aa bH (aa (pv 1) (aa (pv 2) ah)))) (aa (bM ah) ah)))) (au (aN (pv 3)))));refine⟨Y,x,C,d,_,.ref wl,rfl,L.hx,D.aO.cl,D.zA,rfl,wl,dw,Y,W.hx,rfl,Y,Y,SW,wl,dw,sg,ow,pw,nW,aI,h,cs,rfl,W,Q,Q,λUM q H1 W1 hq sub fr tp=>?_⟩
 have nSW:∀ a ob,H a=some ob->¬ SW a->¬ UM a:=λa ob e n z=>by
  rcases sub a z with y|y
  ·exact n y
  ·rw[e]at y;cases y
 have nk1:∀ a ob,H a=some ob->(S a\/a=bk\/a=x)->¬ SW a:=λa ob e z y=>by
  obtain⟨y1,y2,y3⟩:=dj a y;rcases z with z|z|z
  ·exact y1 z
  ·exact y2 z
  ·exact y3 z
 have L1:iy C CS S H1 x d wl sh bl kn du bk dS st op (jQ pe) ops aB:=L.fr (λa ob e z=>fr _ _ e (nk1 a ob e z)) tp;obtain⟨as,hR,_⟩:=id R
 have LU1:Bd C CS CW CB (λa=>S a\/UM a\/a=bk\/a=x\/a=bl\/a=tb) S UM H1 x d wl sh bl kn du bk dS st op dw sg ow pw db tb pe ops aB (aI++pB h cs) (nW+1) bO:=by
  refine⟨L1,W1,fr _ _ B db'.2.1,R.two (λxs e=>fr _ _ e dt.2.1) tp,Fx,λa z=>?_,⟨db'.1,nSW _ _ B db'.2.1,db'.2.2⟩,⟨dt.1,nSW _ _ hR dt.2.1,dt.2.2⟩,λa=>Iff.rfl⟩;rcases sub a z with y|y
  ·exact dj a y
  ·refine⟨λq'=>?_,λq'=>?_,λq'=>?_⟩
   ·obtain⟨ob,e⟩:=L.W.al a q';rw[y]at e;cases e
   ·rw[q',L.hb]at y;cases y
   ·rw[q',L.hx]at y;cases y
 refine⟨Y,x,d,Y,L1.hx,rfl,Y,Y,Wr,λt ht=>⟨iG,λc hc=>?_⟩⟩;have s2:aK H1 (aM (aM H1 t (.tup [.str "pour",.int h,.str (fF cs)])) c (.lst [])):=(ak ht _).trans (ak hc _);have Ib:(aM (aM H1 t (.tup [.str "pour",.int h,.str (fF cs)])) c (.lst [])) t=some (.tup [.str "pour",.int h,.str (fF cs)]):=ak hc _ _ _ af;have Xa:(aM (aM H1 t (.tup [.str "pour",.int h,.str (fF cs)])) c (.lst [])) c=some (.lst (([]:List Addr).map V.ref)):=af
 have nc:c≠bk:=λz=>by
  have:=ak ht (.tup [.str "pour",.int h,.str (fF cs)]) _ _ L1.hb;rw[← z,hc]at this;cases this
 generalize aM (aM H1 t (.tup [.str "pour",.int h,.str (fF cs)])) c (.lst [])=H2 at s2 Ib Xa;have lp:(jQ pe).length=pe.length:=cz _;have F8:=LU1.same s2;refine⟨S,x,d,wl,sh,bl,kn,du,bk,dS,st,op,jQ pe,ops,aB,t,c,.A9 h cs,[],[],rows.map aF,rfl,F8.L,Ib,⟨fh,lc⟩,Xa,nc,.nil,(λ_ z=>by cases z),d7 hl,(λi ch e=>by cases e),(by show 0<=200;decide),by rw[cz];lia,Q,Q,λS' H3 L3 fr3=>?_⟩
 have ep:jQ pe++[l6 (rows.map aF) []]=jQ (pe++[rows]):=by
  show _=(pe++[rows]).map _;rw[gy];rfl
 have eo:ops++List.replicate ((l6 (rows.map aF) []).length-(rows.map aF).length) (((jQ pe).length:Nat):Int)=ops:=by
  show ops++List.replicate ((rows.map aF).length-(rows.map aF).length) _=ops;rw[Nat.sub_self];exact gK _
 rw[ep,eo]at L3;obtain⟨U',hL',f'⟩:=F8.ko L3 fr3;refine⟨Y,k U' q H3 hL' ⟨λa z=>?_,λa ob e n=>?_,λa xs e=>f'.2.2 _ _ (s2 _ _ (tp _ _ e))⟩ (f'.2.2 _ _ (s2 _ _ hq))⟩
 ·rcases f'.1 a z with y|y
  ·rcases y with y|y|y
   ·exact .inl ((u a).mpr (.inl y))
   ·exact (sub a y).imp (λw=>(u a).mpr (.inr (.inl w))) id
   ·exact .inl ((u a).mpr (.inr (.inr y)))
  ·have y1:=aY s2 y
   cases e:H a with
   | none=>exact .inr rfl
   | some ob =>
    by_cases z2:SW a
    ·exact .inl ((u a).mpr (.inr (.inl z2)))
    ·rw[fr _ _ e z2]at y1;cases y1
 ·have n1:¬ SW a:=λz=>n ((u a).mpr (.inr (.inl z)));refine f'.2.1 a ob (s2 _ _ (fr _ _ e n1)) λz=>?_;rcases z with z|z|z
  ·exact n ((u a).mpr (.inl z))
  ·exact nSW _ _ e n1 z
  ·exact n ((u a).mpr (.inr (.inr z)))
class inductive Aq(C CS CW CB:Addr)
 | mk (U:Addr->Prop) (x:Addr) (pe:iS) (aB:iT) (aI:iN) (nW:Nat) (bO:Row) (_:vs=[.ref x]) (_:oG C CS CW CB U H x pe aB aI nW bO) (_:Q (.int (aI.length:Nat)) H)
class inductive F9(C CS CW CB:Addr)
 | mk (U:Addr->Prop) (x r:Addr) (pe:iS) (aB:iT) (aI:iN) (nW:Nat) (bO row:Row) (_:vs=[.ref x,.ref r]) (_:oG C CS CW CB U H x pe aB aI nW bO) (_:ck H r row) (_:row.length<=1000) (_:rO aI.length row=true) (_:∀ H',aK H H'->Q .gm H')
theorem Be:aH ["self"] ["self"] (aA pP):=fc
theorem rQ:aH ["self","row"] ["self","row"] (aA iP):=fc
theorem rR:‹(2,58,["self"],(Aq C CS CW CB))›:=λD=>by
 specialize fG D.Z5.F Be;obtain⟨U,x,pe,aB,aI,nW,bO,rfl,⟨S,SW,d,wl,sh,bl,kn,du,bk,dS,st,op,dw,sg,ow,pw,db,tb,ops,LU⟩,k⟩:=h;exists _,(au (aN (ff (dF (pv 0) rfl) D.kL D.OU (l9 D) hr bN)));exact⟨Y,x,C,d,_,.ref wl,rfl,LU.L.hx,D.aO.cl,D.zA,rfl,wl,dw,Y,LU.W.hx,rfl,wl,dw,sg,ow,pw,aI,rfl,LU.W.hx,LU.W.hs,k⟩
theorem jW:‹(3,59,["self","row"],(F9 C CS CW CB))›:=λD=>by
 have v9:bq P w K mg zt cM 2 _ _ Ex (Aq C CS CW CB):=rR D;specialize fG D.WH.F rQ;obtain⟨U,x,r,pe,aB,aI,nW,bO,row,rfl,LB,jP,lr,g,k1⟩:=h;obtain⟨S,SW,d,wl,sh,bl,kn,du,bk,dS,st,op,dw,sg,ow,pw,db,tb,ops,LU⟩:=id LB;exists _,(au (bP (mG (mF (cL (dF (pv 0) rfl) D.kL D.Z1 (Bc D) hr bN (aa (pv 1) ah)))) (au jw) bf));refine⟨Y,x,C,d,_,.ref wl,rfl,LU.L.hx,D.aO.cl,D.zA,rfl,wl,dw,Y,LU.W.hx,rfl,Y,SW,wl,dw,sg,ow,pw,r,nW,aI,row,rfl,LU.W,jP,lr,λH1 s1=>⟨Y,?_⟩⟩;rw[g];exact gh (k1 H1 s1)
abbrev ptW:List Nat:=(Str.ofString "put").cps.toList
class inductive Tc(C CS CW CB:Addr)
 | mk (U:Addr->Prop) (x r:Addr) (pe:iS) (aB:iT) (aI:iN) (nW:Nat) (bO row:Row) (s p:Int) (rows:cO) (_:vs=[.ref x,.int s,.int p,.ref r]) (_:oG C CS CW CB U H x pe aB aI nW bO) (_:ck H r row) (_:Mt row) (_:aI.length<=100000) (_:pe.getLast?=some rows) (_:rows.length<=50) (_:pe.length<=900) (_:aB.length<=900) (_:wB s) (_:wB p) (_:sS rows.length s) (_:rO aI.length row=true) (_:(∃ sh,Seen rows sh/\(0<=p/\p<=(sh s).length)/\((∀ es,rows[s.toNat]?=some es->(∃ f,nQ (iZ rows s.toNat (fE sh p es (cZ (cD (bZ row))))) f)/\
  ∀ (U':Addr->Prop) (H':Hp),oG C CS CW CB U' H' x (pe++[iZ rows s.toNat (fE sh p es (cZ (cD (bZ row))))]) (aB++[(jK.qu ptW [s,p] row).line]) aI nW bO->Ew U U' H H'->Q .gm H'))))
theorem tY:aH ["self","sheet","place","row","items"] ["self","sheet","place","row"] (aA pQ):=fc
theorem Cw(ns:List Int):ja (cK ns)=(ns.length:Int):=by rw[← sG _ (oU _),gA]
theorem Cy{n:Nat}{row:Row}(h:rO n row=true):∀ p∈row,0<=p.1/\p.1<p.2/\p.2<=n:=λp hp=>by
 have z:=List.all_eq_true.mp h p hp;unfold QH at z;simpa [and_assoc] using z
theorem wB.big{s:Int}(h:wB s):s<10^60:=by
 obtain⟨_,h1⟩:=h;lia
theorem Ar:‹(6,61,["self","sheet","place","row"],(Tc C CS CW CB))›:=λD=>by
 refine fG D.Z6.F tY λdm A zn s0 H vs Q E hr h=>?_;obtain⟨U,x,r,pe,aB,aI,nW,bO,row,s,p,rows,rfl,LB,jP,fr,li,hl,l1,l2,l3,fs,fp,ia,g,k2⟩:=h;obtain⟨S,SW,d,wl,sh,bl,kn,du,bk,dS,st,op,dw,sg,ow,pw,db,tb,ops,LU⟩:=id LB;have lo:=kj LU.L hl;have tX:=d7 hl;have lp:(jQ pe).length=pe.length:=cz _;exists _,(aj (aT (aC D.X5 (gH D) hr (aa (cL (pv 0) D.aO D.OV (iJ D) hr bN (aa (pv 1) ah)) (aa (pv 2) (aa (pv 2) ah))))) (aj (aT (cL (pv 0) D.aO D.WH (jW D) hr bN (aa (pv 3) ah))) (aj (aU (i:=4) tY.nd (aC D.RT (qf D) hr (aa (ff (dF (pv 0) rfl) D.cH D.A2 (eE D) hr bN) (aa (pv 1) (aa (pv 2) (aa (aC D.Dq (kQ D) hr (aa (pv 3) ah)) ah)))))) (au (aT (cL (pv 0) D.aO D.Fq (dQ D) hr bN (aa (cJ (aa bH (aa (pv 1) (aa (pv 2) (aa (pv 3) ah))))) (aa (pv 1) (aa (pv 4) ah)))))))));exists Y,x,d,Y,LU.L.hx,rfl,Y,S,x,d,wl,sh,bl,kn,du,bk,dS,st,op,pe,ops,aB,rows,s,rfl,LU.L,hl,l1,l2,ia;obtain⟨f0,sn,hpp,k6⟩:=k2;have ls:(f0 s).length<=10000:=sn.ln s ia.1 ia.2;have lr0:=mz (f0 s);refine⟨f0,sn,λo H1 ho s1 fo=>?_⟩;have z:MW p p (ja (cK (f0 s))):=by rw[Cw];exact⟨hpp.1,Int.le_refl _,hpp.2⟩
 refine⟨Y,Y,o,cK (f0 s),p,p,rfl,ho,Q,z,λH2 s2=>?_⟩;have jU:=s1.trans s2;have F8:=LU.same jU;have Fv:=jP.same jU;refine⟨Y,x,d,Y,F8.L.hx,rfl,Y,U,x,r,pe,aB,aI,nW,bO,row,rfl,LB.same jU,Fv,by have:=fr.1;lia,g,λH3 s3=>?_⟩;have ve:=jU.trans s3;have Td:=LU.same ve;have LX:=jP.same ve;have hp:=Cy g;have sl:s.toNat<rows.length:=by have:=ia.1;have:=ia.2;lia
 obtain⟨es,es1⟩:∃ es,rows[s.toNat]?=some es:=⟨_,qM sl⟩;obtain⟨⟨fB,B⟩,k7⟩:=k6 _ es1;refine⟨Y,x,C,d,_,.ref sh,rfl,Td.L.hx,D.aO.cl,D.eY,rfl,sh,dS,Y,Td.L.W.hx,rfl,S,sh,dS,st,op,jQ pe,ops,rfl,Td.L.W,⟨Q,Q⟩,λUL el q H4 fs4 s4=>?_⟩;rw[tX]at el;cases el;obtain⟨fq,rs,hq,al⟩:=fs4
 have hR:gp H4 q (rows.map aF):=by
  exists rs.map V.ref,hq
  have key:∀ {as:List Addr} {ds:List (List aQ)},cu (λr aL=>H3 r=none/\r≠q/\bz H4 (.ref r) aL) as ds->cu (bz H4) (as.map V.ref) ds:=by
   intro as ds z
   induction z with
   | nil=>exact .nil
   | cons o t ih=>exact .cons o.2.2 ih
  exact key al
 have hr4:=LX.same s4;refine⟨Y,Y,Y,r,row,rfl,hr4,by have:=fr.1;lia,λoi H5 hoi s5 foi=>?_⟩;have nn:lN row:=λp' MX=>⟨(hp p' MX).1,by have:=(hp p' MX).2.1;lia⟩;refine⟨q,oi,rows,s,p,_,f0,rfl,⟨hR.same s5,Q,sn.es,sn.sd,sn.rk,sn.ss,sn.ln⟩,ia.1,ia.2,hoi,rL (mq nn),?_,hpp,λes q2 H6 oH eL s6 PM=>?_⟩
 ·unfold cD;rw[cz];have:=jq row;have:=fr.1;lia
 rw[es1]at oH;cases oH;have PN:aK H H6:=ve.trans (s4.trans (s5.trans s6));have PR:=LU.same PN
 have PU:q2≠bk:=λe=>by
  have y:=(LU.same (ve.trans (s4.trans s5))).L.hb;rw[← e,PM]at y;cases y
 refine⟨Y,x,d,Y,PR.L.hx,rfl,Y,Y,Y,Dp,λt ht=>?_⟩;have s7:=ak ht (.tup [.str "put",.int s,.int p,.ref r]);have ht7:(aM H6 t (.tup [.str "put",.int s,.int p,.ref r])) t=some (.tup [.str "put",.int s,.int p,.ref r]):=af;generalize aM H6 t (.tup [.str "put",.int s,.int p,.ref r])=H7 at s7 ht7;have s17:=PN.trans s7;have LU7:=LU.same s17;have ss:((s.toNat:Nat):Int)=s:=by have:=ia.1;lia
 refine⟨Y,Y,S,x,d,wl,sh,bl,kn,du,bk,dS,st,op,pe,ops,aB,t,q2,.qu ptW [s,p] row,s.toNat,_,rows,fB,by rw[ss];rfl,LU7.L,⟨r,by rw[ht7,rH];rfl,jP.same s17⟩,⟨(by show lQ Yb ptW=some 2;decide +kernel),?_,fr⟩,eL.same s7,PU,hl,by have:=ia.2;have:=ia.1;lia,l1,l2,l3,B,λS' H8 L8 C7=>?_⟩
 ·intro y hy;have b1:=ia.1;have b2:=hpp.1;rcases List.mem_cons.mp hy with e|e
  ·rw[e];exact⟨b1,fs.big⟩
  ·rw[List.mem_singleton.mp e];exact⟨b2,fp.big⟩
 ·obtain⟨U',hL',f'⟩:=LU7.ko L8 C7;exact k7 U' H8 hL' (f'.pre s17)
theorem We.kU{S:Addr->Prop}{H H':Hp}{x d s p l:Addr}{n:Nat}{aI:iN}{fs:List (Str × V)}(h:We C S H x d s o p n aI)(hl:H l=some (.ins C' d' fs))(nl:¬ S l)(k:cB l H H'):We C S H' x d s o p n aI :=
 h.fr (λa ob e z=>k a ob e (λq=>nl (by rw[← q];exact z))) (λa xs e=>k _ _ e (cV e hl))
theorem ck.kU{H H':Hp}{r l:Addr}{row:Row}{fs:List (Str × V)}(h:ck H r row)(hl:H l=some (.ins C' d' fs))(k:cB l H H'):ck H' r row :=
 h.two (λxs e=>k _ _ e (cV e hl)) (λa xs e=>k _ _ e (cV e hl))
theorem mD{H:Hp}{dw a:Addr}{o:HO}(e:(aM (aM H dw (.own xw)) xw o) a=none):H a=none:=by
 by_cases z1:a=xw
 ·rw[z1,af]at e;cases e
 rw[aJ z1]at e;by_cases z2:a=dw
 ·rw[z2,af]at e;cases e
 rw[aJ z2]at e;exact e
class inductive Cz(C CS CW CB:Addr)
 | mk (x d:Addr) (_:vs=[.ref x]) (_:H x=some (.ins C d [])) (_: ∀ (U:Addr->Prop) (H':Hp),oG C CS CW CB U H' x [[]] [] [] 0 []->(∀ a,U a->a=x\/H a=none)->cB x H H'->Q .gm H')
theorem uX:aH ["self"] ["self"] (aA jC):=fc
theorem tF:‹(3,52,["self"],(Cz C CS CW CB))›:=λD=>by
 specialize fG D.WG.F uX;obtain⟨x,d,rfl,hx,k⟩:=h;refine⟨_,(aj (jf (pv 0) (mK D.kL.Wm (xG D) (hr.mono (by decide)) rfl D.kL.m D.ZZ.b .nil bN) rfl) (aj (jf (pv 0) (mK D.cH.Wm (v7 D) (hr.mono (by decide)) rfl D.cH.m D.ZS.b .nil bN) rfl) (aj (jf (pv 0) (mK D.zW.Wm (vM D) (hr.mono (by decide)) rfl D.zW.m D.dq9.b .nil bN) rfl) (aj (jf (pv 0) (mK D.Ci.Wm (xE D) (hr.mono (by decide)) rfl D.Ci.m D.ZX.b .nil bN) rfl) (aj (jf (pv 0) (mK D.Fp.Wm (xD D) (hr.mono (by decide)) rfl D.Fp.m D.ZY.b .nil bN) rfl) (au (jf (pv 0) (bM ah) rfl))))))),?_⟩;intro wl dw hw1 hw2 _;refine⟨wl,dw,rfl,af,λsg ow pw H1 V1 k1 fsg fow fpw=>⟨rfl,?_⟩⟩;have s1:=j7 hw1 hw2 k1
 have fW:∀ a,(a=wl\/a=sg\/a=ow\/a=pw)->H a=none:=λa e=>by
  rcases e with rfl|rfl|rfl|rfl
  ·exact hw1
  ·exact mD fsg
  ·exact mD fow
  ·exact mD fpw
 have Xn:¬ (x=wl\/x=sg\/x=ow\/x=pw):=λe=>by
  have:=fW x e;rw[hx]at this;cases this
 exists Y,x,C,d,Y,s1 _ _ hx,D.aO.cl,D.zA,E;have q2:cB x H (aM H1 x (.ins C d (L2.d8 "well" (.ref wl) []))):=cB.trans (gx.aK.keep s1) (aG x _ _);have x2:(aM H1 x (.ins C d (L2.d8 "well" (.ref wl) []))) x=some (.ins C d [("well",.ref wl)]):=af;have kx2:cB x H1 (aM H1 x (.ins C d (L2.d8 "well" (.ref wl) []))):=aG x _ _;generalize aM H1 x (.ins C d (L2.d8 "well" (.ref wl) []))=H2 at q2 x2 kx2;have V2:=V1.kU (s1 _ _ hx) Xn kx2;intro sh dS Xg K0 _;refine⟨sh,dS,rfl,af,λst op z H3 W3 k3 fst fop fz=>⟨rfl,?_⟩⟩;have s3:=j7 Xg K0 k3
 have up:∀ a,(aM (aM H2 dS (.own sh)) sh (.ins CS dS [])) a=none->H2 a=none:=λa e=>by
  by_cases z1:a=sh
  ·rw[z1,af]at e;cases e
  rw[aJ z1]at e;by_cases z2:a=dS
  ·rw[z2,af]at e;cases e
  rw[aJ z2]at e;exact e
 have fS:∀ a,(a=sh\/a=st\/a=op\/a=z)->H2 a=none:=λa e=>by
  rcases e with rfl|rfl|rfl|rfl
  ·exact Xg
  ·exact up _ fst
  ·exact up _ fop
  ·exact up _ fz
 have Xo:¬ (x=sh\/x=st\/x=op\/x=z):=λe=>by
  have:=fS x e;rw[x2]at this;cases this
 have x3:=s3 _ _ x2;have V3:=V2.same s3;refine⟨Y,x,C,d,Y,x3,D.aO.cl,D.eY,(by show 1<1000;decide),?_⟩;have k4:cB x H3 (aM H3 x (.ins C d (L2.d8 "shelf" (.ref sh) [("well",.ref wl)]))):=aG x _ _;have x4:(aM H3 x (.ins C d (L2.d8 "shelf" (.ref sh) [("well",.ref wl)]))) x=some (.ins C d [("well",.ref wl),("shelf",.ref sh)]):=af;generalize aM H3 x (.ins C d (L2.d8 "shelf" (.ref sh) [("well",.ref wl)]))=H4 at k4 x4;have W4:=W3.kU x3 Xo k4;have V4:=V3.kU x3 Xn k4;have q4:cB x H H4:=(q2.trans (gx.aK.keep s3)).trans k4;intro bl db Et QC _;refine⟨bl,db,rfl,af,λtb H5 B5 R5 k5 ftb=>⟨rfl,?_⟩⟩;have s5:=j7 Et QC k5;have Xp:=mD ftb;have x5:=s5 _ _ x4;have W5:=W4.same s5;have V5:=V4.same s5;have PV:bl≠x:=(az x4 Et).symm;refine⟨Y,x,C,d,Y,x5,D.aO.cl,D.C4,(by show 2<1000;decide),?_⟩;have k6:cB x H5 (aM H5 x (.ins C d (L2.d8 "blots" (.ref bl) [("well",.ref wl),("shelf",.ref sh)]))):=aG x _ _;have x6:(aM H5 x (.ins C d (L2.d8 "blots" (.ref bl) [("well",.ref wl),("shelf",.ref sh)]))) x=some (.ins C d [("well",.ref wl),("shelf",.ref sh),("blots",.ref bl)]):=af;generalize aM H5 x (.ins C d (L2.d8 "blots" (.ref bl) [("well",.ref wl),("shelf",.ref sh)]))=H6 at k6 x6;have W6:=W5.kU x5 Xo k6;have V6:=V5.kU x5 Xn k6;have B6:Bl CB H6 bl db tb:=k6 _ _ B5 PV;have R6:=R5.kU x5 k6;have q6:cB x H H6:=(q4.trans (gx.aK.keep s5)).trans k6;intro kn dk hk1 hk2 _;refine⟨kn,dk,rfl,af,λfs7 H7 _ k7=>⟨rfl,?_⟩⟩;have s7:=j7 hk1 hk2 k7;have x7:=s7 _ _ x6;have W7:=W6.same s7;have V7:=V6.same s7;have B7:Bl CB H7 bl db tb:=s7 _ _ B6;have R7:=R6.same s7;refine⟨Y,x,C,d,Y,x7,D.aO.cl,D.C5,(by show 3<1000;decide),?_⟩;have k8:cB x H7 (aM H7 x (.ins C d (L2.d8 "knots" (.ref kn) [("well",.ref wl),("shelf",.ref sh),("blots",.ref bl)]))):=aG x _ _;have x8:(aM H7 x (.ins C d (L2.d8 "knots" (.ref kn) [("well",.ref wl),("shelf",.ref sh),("blots",.ref bl)]))) x=some (.ins C d [("well",.ref wl),("shelf",.ref sh),("blots",.ref bl),("knots",.ref kn)]):=af;generalize aM H7 x (.ins C d (L2.d8 "knots" (.ref kn) [("well",.ref wl),("shelf",.ref sh),("blots",.ref bl)]))=H8 at k8 x8;have W8:=W7.kU x7 Xo k8;have V8:=V7.kU x7 Xn k8;have B8:Bl CB H8 bl db tb:=k8 _ _ B7 PV;have R8:=R7.kU x7 k8;have q8:cB x H H8:=(q6.trans (gx.aK.keep s7)).trans k8;intro du dd LC hd2 _;refine⟨du,dd,rfl,af,λfs9 H9 _ k9=>⟨rfl,?_⟩⟩;have s9:=j7 LC hd2 k9;have x9:=s9 _ _ x8;have W9:=W8.same s9;have V9:=V8.same s9;have B9:Bl CB H9 bl db tb:=s9 _ _ B8;have R9:=R8.same s9;refine⟨Y,x,C,d,Y,x9,D.aO.cl,D.J3,(by show 4<1000;decide),?_⟩;have Yc:cB x H9 (aM H9 x (.ins C d (L2.d8 "dues" (.ref du) [("well",.ref wl),("shelf",.ref sh),("blots",.ref bl),("knots",.ref kn)]))):=aG x _ _;have Yd:(aM H9 x (.ins C d (L2.d8 "dues" (.ref du) [("well",.ref wl),("shelf",.ref sh),("blots",.ref bl),("knots",.ref kn)]))) x=some (.ins C d [("well",.ref wl),("shelf",.ref sh),("blots",.ref bl),("knots",.ref kn),("dues",.ref du)]):=af;generalize aM H9 x (.ins C d (L2.d8 "dues" (.ref du) [("well",.ref wl),("shelf",.ref sh),("blots",.ref bl),("knots",.ref kn)]))=MV at Yc Yd;have W10:=W9.kU x9 Xo Yc;have V10:=V9.kU x9 Xn Yc;have B10:Bl CB MV bl db tb:=Yc _ _ B9 PV;have R10:=R9.kU x9 Yc;have BN:cB x H MV:=(q8.trans (gx.aK.keep s9)).trans Yc;refine⟨iG,λbk UN=>⟨Y,x,C,d,Y,ak UN _ _ _ Yd,D.aO.cl,D.EO,(by show 5<1000;decide),?_⟩⟩;have nbx:bk≠x:=(az Yd UN).symm
 have nSb:¬ (bk=sh\/bk=st\/bk=op\/bk=z):=λe=>by
  obtain⟨ob,w⟩:=W10.al bk e;rw[UN]at w;cases w
 have wA:=ak UN (.lst []);have k12:cB x (aM MV bk (.lst [])) (aM (aM MV bk (.lst [])) x (.ins C d (L2.d8 "book" (.ref bk) [("well",.ref wl),("shelf",.ref sh),("blots",.ref bl),("knots",.ref kn),("dues",.ref du)]))):=aG x _ _;have W12:=(W10.same wA).kU (wA _ _ Yd) Xo k12;have V12:=(V10.same wA).kU (wA _ _ Yd) Xn k12;have B12:=k12 _ _ (wA _ _ B10) PV;have R12:=(R10.same wA).kU (wA _ _ Yd) k12;obtain⟨as5,hR5,_⟩:=id R5;have aa0:∀ a,(a=sh\/a=st\/a=op\/a=z)->a=x\/H a=none:=λa e=>.inr (iE q2 (λe'=>by rw[e']at e;exact Xo e) (fS a e));refine k (λa=>(a=sh\/a=st\/a=op\/a=z)\/(a=wl\/a=sg\/a=ow\/a=pw)\/a=bk\/a=x\/a=bl\/a=tb) _ ⟨P,d,wl,sh,bl,kn,du,bk,dS,st,op,dw,sg,ow,pw,db,tb,[],⟨af,W12,?_,Xo,nSb⟩,V12,B12,R12,?_,?_,?_,?_,λa=>Iff.rfl⟩ ?_ ((BN.trans (gx.aK.keep wA)).trans k12)
 ·rw[aJ nbx];exact af
 ·exact⟨.nil,λ_ z=>by cases z⟩
 ·intro a ea;obtain⟨ob,hob⟩:=V2.al a ea;refine⟨λes=>?_,λeb=>?_,λex=>?_⟩
  ·rw[fS a es]at hob;cases hob
  ·obtain⟨ob',w⟩:=V10.al a ea;rw[eb,UN]at w;cases w
  ·rw[ex]at ea;exact Xn ea
 ·refine⟨λes=>?_,λew=>?_,λeb=>?_⟩
  ·obtain⟨ob,w⟩:=W4.al bl es;rw[Et]at w;cases w
  ·obtain⟨ob,w⟩:=V4.al bl ew;rw[Et]at w;cases w
  ·rw[eb]at B10;have aa1:MV bk=some _:=B10;rw[UN]at aa1;cases aa1
 ·refine⟨λes=>?_,λew=>?_,λeb=>?_⟩
  ·obtain⟨ob,w⟩:=W4.al tb es;rw[Xp]at w;cases w
  ·obtain⟨ob,w⟩:=V4.al tb ew;rw[Xp]at w;cases w
  ·obtain⟨as,hR,_⟩:=id R10;rw[eb,UN]at hR;cases hR
 ·intro a ea;rcases ea with ea|ea|ea|ea|ea|ea
  ·exact aa0 a ea
  ·exact .inr (fW a ea)
  ·rw[ea];exact .inr (iE BN nbx UN)
  ·exact .inl ea
  ·rw[ea];exact .inr (iE q4 PV Et)
  ·by_cases ex:a=x
   ·exact .inl ex
   ·rw[ea]at ex ⊢;exact .inr (iE q4 ex Xp)
theorem SK.at_{H H':Hp}{q:Addr}{rows:List (List aQ)}(h:SK H H' q rows):gp H' q rows:=by
 obtain⟨_,rs,hq,al⟩:=h;exists rs.map V.ref,hq
 have key:∀ {as:List Addr} {ds:List (List aQ)},cu (λr aL=>H r=none/\r≠q/\bz H' (.ref r) aL) as ds->cu (bz H') (as.map V.ref) ds:=by
  intro as ds z
  induction z with
  | nil=>exact .nil
  | cons o t ih=>exact .cons o.2.2 ih
 exact key al
abbrev ctW:List Nat:=(Str.ofString "cut").cps.toList
abbrev qtW:List Nat:=(Str.ofString "quote").cps.toList
class inductive Te(C CS CW CB:Addr)
 | mk (U:Addr->Prop) (x:Addr) (pe:iS) (aB:iT) (aI:iN) (nW:Nat) (bO:Row) (s a b:Int) (rows:cO) (_:vs=[.ref x,.int s,.int a,.int b]) (_:oG C CS CW CB U H x pe aB aI nW bO) (_:pe.getLast?=some rows) (_:rows.length<=50) (_:pe.length<=900) (_:aB.length<=900) (_:wB s) (_:wB a) (_:wB b)
  (_:sS rows.length s) (_:∃ sh,Seen rows sh/\MW a b (sh s).length/\(∀ es,rows[s.toNat]?=some es->(∃ f,nQ (iZ rows s.toNat (bR sh a b es)) f)/\
  ∀ (U':Addr->Prop) (H':Hp),oG C CS CW CB U' H' x (pe++[iZ rows s.toNat (bR sh a b es)]) (aB++[(jK.plain ctW [s,a,b]).line]) aI nW bO->Ew U U' H H'->Q .gm H'))
class inductive ME(C CS CW CB:Addr)
 | mk (U:Addr->Prop) (x:Addr) (pe:iS) (aB:iT) (aI:iN) (nW:Nat) (bO:Row) (t p s a b:Int) (rows:cO) (_:vs=[.ref x,.int t,.int p,.int s,.int a,.int b]) (_:oG C CS CW CB U H x pe aB aI nW bO) (_:pe.getLast?=some rows) (_:rows.length<=50) (_:pe.length<=900) (_:aB.length<=900) (_:wB t) (_:wB p) (_:wB s) (_:wB a) (_:wB b)
  (_:sS rows.length t) (_:sS rows.length s) (_:(∃ sh,Seen rows sh/\MW a b (sh s).length/\((0<=p/\p<=(sh t).length)/\(∀ es,rows[t.toNat]?=some es->(∃ f,nQ (iZ rows t.toNat (fE sh p es (((sh s).take b.toNat).drop a.toNat))) f)/\
  ∀ (U':Addr->Prop) (H':Hp),oG C CS CW CB U' H' x (pe++[iZ rows t.toNat (fE sh p es (((sh s).take b.toNat).drop a.toNat))]) (aB++[(jK.plain qtW [t,p,s,a,b]).line]) aI nW bO->Ew U U' H H'->Q .gm H'))))
class inductive Xq(C CS:Addr)
 | mk (S:Addr->Prop) (x d wl sh bl kn du bk dS st op:Addr) (pe:iS) (ops:List Int) (aB:iT) (rows:cO) (s:Int) (_:vs=[.ref x,.int s]) (_:iy C CS S H x d wl sh bl kn du bk dS st op (jQ pe) ops aB) (_:pe.getLast?=some rows) (_:rows.length<=50) (_:pe.length<=900)
  (_:sS rows.length s) (_:∀ es,rows[s.toNat]?=some es->∀ (q:Addr) (H':Hp),bz H' (.ref q) (aF es)->aK H H'->H q=none->Q (.ref q) H')
theorem tZ:aH ["self","sheet","start","stop","items"] ["self","sheet","start","stop"] (aA pR):=fc
theorem As:‹(6,63,["self","sheet","start","stop"],(Te C CS CW CB))›:=λD=>by
 refine fG D.Z7.F tZ λdm A zn s0 H vs Q E hr h=>?_;obtain⟨U,x,pe,aB,aI,nW,bO,s,a,b,rows,rfl,LB,hl,l1,l2,l3,fs,fa,fb,ia,k2⟩:=h;obtain⟨S,SW,d,wl,sh,bl,kn,du,bk,dS,st,op,dw,sg,ow,pw,db,tb,ops,LU⟩:=id LB;have lo:=kj LU.L hl;have tX:=d7 hl;have lp:(jQ pe).length=pe.length:=cz _;have ok:IS (jQ pe) ops:=⟨Q,Q⟩;exists _,(aj (aT (cL (dF (pv 0) rfl) D.cH D.Dr (cE D) hr bN (aa (pv 1) ah))) (aj (aU (i:=4) tZ.nd (aC D.ZN (DC D) hr (aa (ff (dF (pv 0) rfl) D.cH D.A2 (eE D) hr bN) (aa (pv 1) (aa (pv 2) (aa (pv 3) ah)))))) (au (aT (cL (pv 0) D.aO D.Fq (dQ D) hr bN (aa (cJ (aa bH (aa (pv 1) (aa (pv 2) (aa (pv 3) ah))))) (aa (pv 1) (aa (pv 4) ah))))))));refine⟨Y,x,C,d,_,.ref sh,rfl,LU.L.hx,D.aO.cl,D.eY,rfl,sh,dS,Y,LU.L.W.hx,rfl,Y,S,sh,dS,st,op,jQ pe,ops,s,rfl,LU.L.W,by rw[lo];exact ia,?_⟩;obtain⟨f0,sn,i3,k4⟩:=k2;refine⟨Y,x,C,d,_,.ref sh,rfl,LU.L.hx,D.aO.cl,D.eY,rfl,sh,dS,Y,LU.L.W.hx,rfl,S,sh,dS,st,op,jQ pe,ops,rfl,LU.L.W,ok,λUL el q H1 S9 s1=>?_⟩;rw[tX]at el;cases el;have sl:s.toNat<rows.length:=by have:=ia.1;have:=ia.2;lia
 obtain⟨es,es1⟩:∃ es,rows[s.toNat]?=some es:=⟨_,qM sl⟩;refine⟨Y,Y,Y,q,rows,s,a,b,f0,rfl,⟨S9.at_,Q,sn.es,sn.sd,sn.rk,sn.ss,sn.ln⟩,ia.1,ia.2,i3,λwz q2 H2 oH eL s2 PM=>?_⟩;rw[es1]at oH;cases oH;obtain⟨⟨fB,B⟩,k5⟩:=k4 es es1;have jU:=s1.trans s2;have F8:=LU.same jU
 have PU:q2≠bk:=λe=>by
  have y:=(LU.same s1).L.hb;rw[← e,PM]at y;cases y
 refine⟨Y,x,d,Y,F8.L.hx,rfl,Y,Y,Y,Dp,λt ht=>?_⟩;have s3:=ak ht (.tup [.str "cut",.int s,.int a,.int b]);have M8:(aM H2 t (.tup [.str "cut",.int s,.int a,.int b])) t=some (.tup [.str "cut",.int s,.int a,.int b]):=af;generalize aM H2 t (.tup [.str "cut",.int s,.int a,.int b])=H3 at s3 M8;have ve:=jU.trans s3;have Td:=LU.same ve;have ss:((s.toNat:Nat):Int)=s:=by have:=ia.1;lia
 refine⟨Y,Y,S,x,d,wl,sh,bl,kn,du,bk,dS,st,op,pe,ops,aB,t,q2,.plain ctW [s,a,b],s.toNat,_,rows,fB,by rw[ss];rfl,Td.L,(by show H3 t=_;rw[M8,rH];rfl),⟨(by show lQ SE ctW=some 3;decide +kernel),?_⟩,eL.same s3,PU,hl,Q,l1,l2,l3,B,λS' H8 L8 C7=>?_⟩
 ·intro y hy;have b1:=ia.1;unfold MW at i3;rcases List.mem_cons.mp hy with e|hy
  ·rw[e];exact⟨b1,fs.big⟩
  rcases List.mem_cons.mp hy with e|hy
  ·rw[e];exact⟨Q,fa.big⟩
  ·rw[List.mem_singleton.mp hy];exact⟨Q,fb.big⟩
 ·obtain⟨U',hL',f'⟩:=Td.ko L8 C7;exact k5 U' H8 hL' (f'.pre ve)
theorem lK:aH ["self","target","place","source","start","stop","row","items"] ["self","target","place","source","start","stop"] (aA mU):=fc
theorem xK:‹(6,64,["self","target","place","source","start","stop"],(ME C CS CW CB))›:=λD=>by
 refine fG D.Z8.F lK λdm A zn s0 H vs Q E hr h=>?_;obtain⟨U,x,pe,aB,aI,nW,bO,t,p,s,a,b,rows,rfl,LB,hl,l1,l2,l3,ft,fp,fs,fa,fb,it,ia,k4⟩:=h;obtain⟨S,SW,d,wl,sh,bl,kn,du,bk,dS,st,op,dw,sg,ow,pw,db,tb,ops,LU⟩:=id LB;have lo:=kj LU.L hl;have tX:=d7 hl;have lp:(jQ pe).length=pe.length:=cz _;have ok:IS (jQ pe) ops:=⟨Q,Q⟩;exists _,(aj (aT (cL (dF (pv 0) rfl) D.cH D.Dr (cE D) hr bN (aa (pv 1) ah))) (aj (aU (i:=6) lK.nd (aC D.dq8 (Sf D) hr (aa (cL (pv 0) D.aO D.OV (iJ D) hr bN (aa (pv 3) ah)) (aa (pv 4) (aa (pv 5) ah))))) (aj (aU (i:=7) lK.nd (aC D.RT (qf D) hr (aa (ff (dF (pv 0) rfl) D.cH D.A2 (eE D) hr bN) (aa (pv 1) (aa (pv 2) (aa (aC D.Dq (kQ D) hr (aa (pv 6) ah)) ah)))))) (au (aT (cL (pv 0) D.aO D.Fq (dQ D) hr bN (aa (cJ (aa bH (aa (pv 1) (aa (pv 2) (aa (pv 3) (aa (pv 4) (aa (pv 5) ah))))))) (aa (pv 1) (aa (pv 7) ah)))))))));refine⟨Y,x,C,d,_,.ref sh,rfl,LU.L.hx,D.aO.cl,D.eY,rfl,sh,dS,Y,LU.L.W.hx,rfl,Y,S,sh,dS,st,op,jQ pe,ops,t,rfl,LU.L.W,by rw[lo];exact it,?_⟩;exists Y,x,d,Y,LU.L.hx,rfl,Y,S,x,d,wl,sh,bl,kn,du,bk,dS,st,op,pe,ops,aB,rows,s,rfl,LU.L,hl,l1,l2,ia;obtain⟨f0,sn,i3,ip,k8⟩:=k4;refine⟨f0,sn,λo H1 ho s1 fo=>?_⟩;have ls:(f0 s).length<=10000:=sn.ln s ia.1 ia.2;have lr0:=mz (f0 s);have tt:ja (cK (f0 s))=(f0 s).length:=Cw _;refine⟨Y,Y,o,cK (f0 s),a,b,rfl,ho,Q,by rw[tt];exact i3,λq0 H2 VZ s2 fq0=>?_⟩;have jU:=s1.trans s2;have F8:=LU.same jU;refine⟨Y,x,C,d,_,.ref sh,rfl,F8.L.hx,D.aO.cl,D.eY,rfl,sh,dS,Y,F8.L.W.hx,rfl,S,sh,dS,st,op,jQ pe,ops,rfl,F8.L.W,ok,λUL el q H3 fs3 s3=>?_⟩;rw[tX]at el;cases el;have ve:=jU.trans s3;have tl:t.toNat<rows.length:=by have:=it.1;have:=it.2;lia
 obtain⟨es,es1⟩:∃ es,rows[t.toNat]?=some es:=⟨_,qM tl⟩;have nnp:∀ {r:Row},jF r->lN r:=λh p hp=>⟨(h p hp).1,by have:=(h p hp).2;lia⟩;have nn0:lN (cK (f0 s)):=nnp (Ca (oW sn.sd sn.rk sn.ss s ia.1 ia.2));have nn1:lN (bZ (kW a b 0 (cK (f0 s)))):=nnp (mq (zT a b _ 0 nn0))
 have lpl:(bZ (kW a b 0 (cK (f0 s)))).length<=10000:=by
  have:=sP a b (cK (f0 s));rw[za]at this;lia
 have epl:cZ (cD (bZ (bZ (kW a b 0 (cK (f0 s))))))=((f0 s).take b.toNat).drop a.toNat:=by
  rw[ng,jo _ λq hq=>(nn1 q hq).2,qb _ _ _ (oU _),gA]
 refine⟨Y,Y,Y,q0,Y,VZ.same s3,Q,λoi H4 hoi s4 foi=>?_⟩;have DP:=ve.trans s4;refine⟨q,oi,rows,t,p,_,f0,rfl,⟨fs3.at_.same s4,Q,sn.es,sn.sd,sn.rk,sn.ss,sn.ln⟩,it.1,it.2,hoi,rL (mq nn1),?_,ip,λwz q2 H5 oH eL s5 PM=>?_⟩
 ·rw[za];have:=jq (bZ (kW a b 0 (cK (f0 s))));lia
 rw[es1]at oH;cases oH;rw[epl]at eL;obtain⟨⟨fB,B⟩,k9⟩:=k8 es es1;have PX:=DP.trans s5;have Ye:=LU.same PX
 have PU:q2≠bk:=λe=>by
  have y:=(LU.same DP).L.hb;rw[← e,PM]at y;cases y
 refine⟨Y,x,d,Y,Ye.L.hx,rfl,Y,Y,Y,Y,Y,Zz,λt' ht=>?_⟩;have s6:=ak ht (.tup [.str "quote",.int t,.int p,.int s,.int a,.int b]);have UO:(aM H5 t' (.tup [.str "quote",.int t,.int p,.int s,.int a,.int b])) t'=some (.tup [.str "quote",.int t,.int p,.int s,.int a,.int b]):=af;generalize aM H5 t' (.tup [.str "quote",.int t,.int p,.int s,.int a,.int b])=H6 at s6 UO;have PN:=PX.trans s6;have PR:=LU.same PN;have ss:((t.toNat:Nat):Int)=t:=by have:=it.1;lia
 refine⟨Y,Y,S,x,d,wl,sh,bl,kn,du,bk,dS,st,op,pe,ops,aB,t',q2,.plain qtW [t,p,s,a,b],t.toNat,_,rows,fB,by rw[ss];rfl,PR.L,(by show H6 t'=_;rw[UO,rH];rfl),⟨(by show lQ SE qtW=some 5;decide +kernel),?_⟩,eL.same s6,PU,hl,Q,l1,l2,l3,B,λS' H8 L8 C7=>?_⟩
 ·intro y hy;have b1:=ia.1;have b2:=it.1;unfold MW at i3;rcases List.mem_cons.mp hy with e|hy
  ·rw[e];exact⟨b2,ft.big⟩
  rcases List.mem_cons.mp hy with e|hy
  ·rw[e];exact⟨ip.1,fp.big⟩
  rcases List.mem_cons.mp hy with e|hy
  ·rw[e];exact⟨b1,fs.big⟩
  rcases List.mem_cons.mp hy with e|hy
  ·rw[e];exact⟨Q,fa.big⟩
  ·rw[List.mem_singleton.mp hy];exact⟨Q,fb.big⟩
 ·obtain⟨U',hL',f'⟩:=PR.ko L8 C7;exact k9 U' H8 hL' (f'.pre PN)
theorem Bf:aH ["self","sheet"] ["self","sheet"] (aA pS):=fc
theorem rS:‹(4,65,["self","sheet"],(Xq C CS))›:=λD=>by
 refine fG D.WI.F Bf λdm A zn s0 H vs Q E hr h=>?_;obtain⟨S,x,d,wl,sh,bl,kn,du,bk,dS,st,op,pe,ops,aB,rows,s,rfl,L,hl,l1,l2,ia,k2⟩:=h;have lo:=kj L hl;have tX:=d7 hl;have lp:(jQ pe).length=pe.length:=cz _;exists _,(au (aN (cL (dF (pv 0) rfl) D.cH D.ZW (DJ D) hr bN (aa (pv 1) ah))));refine⟨Y,x,C,d,_,.ref sh,rfl,L.hx,D.aO.cl,D.eY,rfl,sh,dS,Y,L.W.hx,rfl,Y,S,sh,dS,st,op,jQ pe,ops,s,rfl,L.W,by rw[lo];exact ia,λsi last aL e1 e2 e3=>?_⟩;rw[tX]at e2;cases e2;rw[fP]at e3;obtain⟨es,e4,rfl⟩:=Option.map_eq_some_iff.mp e3;have il:=(List.getElem?_eq_some_iff.mp e4).1;exact λq H' hq s1 fq=>k2 es (by rw[e1,Int.toNat_natCast];exact e4) q H' hq s1 fq
abbrev wnW:List Nat:=(Str.ofString "window").cps.toList
class inductive PY(C CS CW CB:Addr)
 | mk (U:Addr->Prop) (x:Addr) (pe:iS) (aB:iT) (aI:iN) (nW:Nat) (bO:Row) (t p s:Int) (rows:cO) (_:vs=[.ref x,.int t,.int p,.int s]) (_:oG C CS CW CB U H x pe aB aI nW bO) (_:pe.getLast?=some rows) (_:rows.length<=50) (_:pe.length<=900) (_:aB.length<=900) (_:wB t) (_:wB p) (_:wB s)
  (_:sS rows.length t) (_:sS rows.length s) (_:(∃ sh,Seen rows sh/\(0<=p/\p<=(sh t).length)/\(∀ es,rows[t.toNat]?=some es->(∃ f,nQ (iZ rows t.toNat (fE sh p es [-1-s])) f)/\
  ∀ (U':Addr->Prop) (H':Hp),oG C CS CW CB U' H' x (pe++[iZ rows t.toNat (fE sh p es [-1-s])]) (aB++[(jK.plain wnW [t,p,s]).line]) aI nW bO->Ew U U' H H'->Q .gm H')))
theorem oY:aH ["self","target","place","source","items"] ["self","target","place","source"] (aA lD):=fc
theorem wc:‹(6,66,["self","target","place","source"],(PY C CS CW CB))›:=λD=>by
 refine fG D.Z9.F oY λdm A zn s0 H vs Q E hr h=>?_;obtain⟨U,x,pe,aB,aI,nW,bO,t,p,s,rows,rfl,LB,hl,l1,l2,l3,ft,fp,fs,it,ia,k4⟩:=h;obtain⟨S,SW,d,wl,sh,bl,kn,du,bk,dS,st,op,dw,sg,ow,pw,db,tb,ops,LU⟩:=id LB;have lo:=kj LU.L hl;have tX:=d7 hl;have lp:(jQ pe).length=pe.length:=cz _;have ok:IS (jQ pe) ops:=⟨Q,Q⟩;exists _,(aj (aT (cL (dF (pv 0) rfl) D.cH D.Dr (cE D) hr bN (aa (pv 1) ah))) (aj (aT (cL (dF (pv 0) rfl) D.cH D.Dr (cE D) hr bN (aa (pv 3) ah))) (aj (aU (i:=4) oY.nd (aC D.RT (qf D) hr (aa (ff (dF (pv 0) rfl) D.cH D.A2 (eE D) hr bN) (aa (pv 1) (aa (pv 2) (aa (bM (aa (cJ (aa bH (aa (pv 3) ah))) ah)) ah)))))) (au (aT (cL (pv 0) D.aO D.Fq (dQ D) hr bN (aa (cJ (aa bH (aa (pv 1) (aa (pv 2) (aa (pv 3) ah))))) (aa (pv 1) (aa (pv 4) ah)))))))));refine⟨Y,x,C,d,_,.ref sh,rfl,LU.L.hx,D.aO.cl,D.eY,rfl,sh,dS,Y,LU.L.W.hx,rfl,Y,S,sh,dS,st,op,jQ pe,ops,t,rfl,LU.L.W,by rw[lo];exact it,?_⟩;refine⟨Y,x,C,d,_,.ref sh,rfl,LU.L.hx,D.aO.cl,D.eY,rfl,sh,dS,Y,LU.L.W.hx,rfl,Y,S,sh,dS,st,op,jQ pe,ops,s,rfl,LU.L.W,by rw[lo];exact ia,?_⟩;obtain⟨f0,sn,ip,k8⟩:=k4;refine⟨Y,x,C,d,_,.ref sh,rfl,LU.L.hx,D.aO.cl,D.eY,rfl,sh,dS,Y,LU.L.W.hx,rfl,S,sh,dS,st,op,jQ pe,ops,rfl,LU.L.W,ok,λUL el q H1 S9 s1=>?_⟩;rw[tX]at el;cases el;have tl:t.toNat<rows.length:=by have:=it.1;have:=it.2;lia
 obtain⟨es,es1⟩:∃ es,rows[t.toNat]?=some es:=⟨_,qM tl⟩;refine⟨Y,Y,Y,lF,λt2 Ib=>⟨m6,λo ho=>?_⟩⟩;have s2:=ak Ib (.tup [.str "win",.int s]);have t2':(aM H1 t2 (.tup [.str "win",.int s])) t2=some (.tup [.str "win",.int s]):=af;generalize aM H1 t2 (.tup [.str "win",.int s])=H2 at s2 t2' ho;have s3:=ak ho (.lst [.ref t2]);have o3:(aM H2 o (.lst [.ref t2])) o=some (.lst [.ref t2]):=af;show yh _ (aM H2 o (.lst [.ref t2])) _ _;generalize aM H2 o (.lst [.ref t2])=H3 at s3 o3;have ve:=s1.trans (s2.trans s3);have hoi:bz H3 (.ref o) [.win s]:=⟨o,Y,o3,.cons ⟨t2,rfl,s3 _ _ t2'⟩ .nil⟩;refine⟨q,o,rows,t,p,[.win s],f0,rfl,⟨S9.at_.same (s2.trans s3),Q,sn.es,sn.sd,sn.rk,sn.ss,sn.ln⟩,it.1,it.2,hoi,.one ia.1,(by show 1<=10000;decide),ip,λwz q2 H5 oH eL s5 PM=>?_⟩;rw[es1]at oH;cases oH;rw[show cZ [aQ.win s]=[-1-s] from rfl]at eL;obtain⟨⟨fB,B⟩,k9⟩:=k8 es es1;have PX:=ve.trans s5;have Ye:=LU.same PX
 have PU:q2≠bk:=λe=>by
  have y:=(LU.same ve).L.hb;rw[← e,PM]at y;cases y
 refine⟨Y,x,d,Y,Ye.L.hx,rfl,Y,Y,Y,Dp,λt' ht=>?_⟩;have s6:=ak ht (.tup [.str "window",.int t,.int p,.int s]);have UO:(aM H5 t' (.tup [.str "window",.int t,.int p,.int s])) t'=some (.tup [.str "window",.int t,.int p,.int s]):=af;generalize aM H5 t' (.tup [.str "window",.int t,.int p,.int s])=H6 at s6 UO;have PN:=PX.trans s6;have PR:=LU.same PN;have ss:((t.toNat:Nat):Int)=t:=by have:=it.1;lia
 refine⟨Y,Y,S,x,d,wl,sh,bl,kn,du,bk,dS,st,op,pe,ops,aB,t',q2,.plain wnW [t,p,s],t.toNat,_,rows,fB,by rw[ss];rfl,PR.L,(by show H6 t'=_;rw[UO,rH];rfl),⟨(by show lQ SE wnW=some 3;decide +kernel),?_⟩,eL.same s6,PU,hl,Q,l1,l2,l3,B,λS' H8 L8 C7=>?_⟩
 ·intro y hy;have b1:=ia.1;have b2:=it.1;rcases List.mem_cons.mp hy with e|hy
  ·rw[e];exact⟨b2,ft.big⟩
  rcases List.mem_cons.mp hy with e|hy
  ·rw[e];exact⟨ip.1,fp.big⟩
  ·rw[List.mem_singleton.mp hy];exact⟨b1,fs.big⟩
 ·obtain⟨U',hL',f'⟩:=PR.ko L8 C7;exact k9 U' H8 hL' (f'.pre PN)
abbrev fxW:List Nat:=(Str.ofString "fix").cps.toList
class inductive aa2(C CS CW CB:Addr)
 | mk (U:Addr->Prop) (x:Addr) (pe:iS) (aB:iT) (aI:iN) (nW:Nat) (bO:Row) (t:Int) (rows:cO) (_:vs=[.ref x,.int t]) (_:oG C CS CW CB U H x pe aB aI nW bO) (_:pe.getLast?=some rows) (_:rows.length<=50) (_:pe.length<=900) (_:aB.length<=900) (_:wB t)
  (_:sS rows.length t) (_:∃ sh,Seen rows sh/\(∃ f,nQ (iZ rows t.toNat (sh t)) f)/\
  ∀ (U':Addr->Prop) (H':Hp),oG C CS CW CB U' H' x (pe++[iZ rows t.toNat (sh t)]) (aB++[(jK.plain fxW [t]).line]) aI nW bO->Ew U U' H H'->Q .gm H')
theorem Bg:aH ["self","sheet"] ["self","sheet"] (aA pT):=fc
theorem Au:‹(6,67,["self","sheet"],(aa2 C CS CW CB))›:=λD=>by
 refine fG D.aaa.F Bg λdm A zn s0 H vs Q E hr h=>?_;obtain⟨U,x,pe,aB,aI,nW,bO,t,rows,rfl,LB,hl,l1,l2,l3,ft,it,k2⟩:=h;obtain⟨S,SW,d,wl,sh,bl,kn,du,bk,dS,st,op,dw,sg,ow,pw,db,tb,ops,LU⟩:=id LB;have lo:=kj LU.L hl;have tX:=d7 hl;have lp:(jQ pe).length=pe.length:=cz _;have ok:IS (jQ pe) ops:=⟨Q,Q⟩;exists _,(aj (aT (cL (dF (pv 0) rfl) D.cH D.Dr (cE D) hr bN (aa (pv 1) ah))) (au (aT (cL (pv 0) D.aO D.Fq (dQ D) hr bN (aa (cJ (aa bH (aa (pv 1) ah))) (aa (pv 1) (aa (aC D.ZP (Ag D) hr (aa (ff (dF (pv 0) rfl) D.cH D.A2 (eE D) hr bN) (aa (pv 1) ah))) ah)))))));refine⟨Y,x,C,d,_,.ref sh,rfl,LU.L.hx,D.aO.cl,D.eY,rfl,sh,dS,Y,LU.L.W.hx,rfl,Y,S,sh,dS,st,op,jQ pe,ops,t,rfl,LU.L.W,by rw[lo];exact it,?_⟩;obtain⟨f0,sn,⟨fB,B⟩,k9⟩:=k2;refine⟨Y,x,d,Y,LU.L.hx,rfl,Y,lF,λt' ht=>?_⟩;have s6:=ak ht (.tup [.str "fix",.int t]);have UO:(aM H t' (.tup [.str "fix",.int t])) t'=some (.tup [.str "fix",.int t]):=af;generalize aM H t' (.tup [.str "fix",.int t])=H6 at s6 UO;have PR:=LU.same s6;refine⟨Y,Y,x,C,d,_,.ref sh,rfl,PR.L.hx,D.aO.cl,D.eY,rfl,sh,dS,Y,PR.L.W.hx,rfl,S,sh,dS,st,op,jQ pe,ops,rfl,PR.L.W,ok,λUL el q H1 S9 s1=>?_⟩;rw[tX]at el;cases el;refine⟨Y,q,rows,t,f0,rfl,⟨S9.at_,Q,sn.es,sn.sd,sn.rk,sn.ss,sn.ln⟩,it.1,it.2,λq2 H5 eL s5 PM=>?_⟩;have PX:=s6.trans (s1.trans s5);have Ye:=LU.same PX
 have PU:q2≠bk:=λe=>by
  have y:=(LU.same (s6.trans s1)).L.hb;rw[← e,PM]at y;cases y
 have ss:((t.toNat:Nat):Int)=t:=by have:=it.1;lia
 have tl:t.toNat<rows.length:=by have:=it.1;have:=it.2;lia
 refine⟨S,x,d,wl,sh,bl,kn,du,bk,dS,st,op,pe,ops,aB,t',q2,.plain fxW [t],t.toNat,_,rows,fB,by rw[ss];rfl,Ye.L,(by show H5 t'=_;rw[s5 _ _ (s1 _ _ UO),rH];rfl),⟨(by show lQ SE fxW=some 1;decide +kernel),?_⟩,eL,PU,hl,Q,l1,l2,l3,B,λS' H8 L8 C7=>?_⟩
 ·intro y hy;rw[List.mem_singleton.mp hy];exact⟨it.1,ft.big⟩
 ·obtain⟨U',hL',f'⟩:=Ye.ko L8 C7;exact k9 U' H8 hL' (f'.pre PX)
abbrev mvW:List Nat:=(Str.ofString "move").cps.toList
class inductive Xr(C CS CW CB:Addr)
 | mk (U:Addr->Prop) (x:Addr) (pe:iS) (aB:iT) (aI:iN) (nW:Nat) (bO:Row) (s a b to:Int) (rows:cO) (_:vs=[.ref x,.int s,.int a,.int b,.int to]) (_:oG C CS CW CB U H x pe aB aI nW bO) (_:pe.getLast?=some rows) (_:rows.length<=50) (_:pe.length<=900) (_:aB.length<=900) (_:wB s) (_:(-100000<a/\a<100000)) (_:(-100000<b/\b<100000)) (_:(-100000<to/\to<100000))
  (_:sS rows.length s) (_:∃ sh,Seen rows sh/\Mv a b to (sh s).length/\(∀ es,rows[s.toNat]?=some es->(∃ f,nQ (iZ rows s.toNat (lY sh a b to es)) f)/\
  ∀ (U':Addr->Prop) (H':Hp),oG C CS CW CB U' H' x (pe++[iZ rows s.toNat (lY sh a b to es)]) (aB++[(jK.plain mvW [s,a,b,to]).line]) aI nW bO->Ew U U' H H'->Q .gm H'))
theorem rT:aH ["self","sheet","start","stop","to","items"] ["self","sheet","start","stop","to"] (aA oh):=fc
theorem yL:‹(6,68,["self","sheet","start","stop","to"],(Xr C CS CW CB))›:=λD=>by
 refine fG D.aab.F rT λdm A zn s0 H vs Q E hr h=>?_;obtain⟨U,x,pe,aB,aI,nW,bO,s,a,b,to,rows,rfl,LB,hl,l1,l2,l3,fs,fa,fb,fo,ia,k2⟩:=h;obtain⟨S,SW,d,wl,sh,bl,kn,du,bk,dS,st,op,dw,sg,ow,pw,db,tb,ops,LU⟩:=id LB;have lo:=kj LU.L hl;have tX:=d7 hl;have lp:(jQ pe).length=pe.length:=cz _;have ok:IS (jQ pe) ops:=⟨Q,Q⟩;exists _,(aj (aT (cL (dF (pv 0) rfl) D.cH D.Dr (cE D) hr bN (aa (pv 1) ah))) (aj (aU (i:=5) rT.nd (aC D.ZO (Af D) hr (aa (ff (dF (pv 0) rfl) D.cH D.A2 (eE D) hr bN) (aa (pv 1) (aa (pv 2) (aa (pv 3) (aa (pv 4) ah))))))) (au (aT (cL (pv 0) D.aO D.Fq (dQ D) hr bN (aa (cJ (aa bH (aa (pv 1) (aa (pv 2) (aa (pv 3) (aa (pv 4) ah)))))) (aa (pv 1) (aa (pv 5) ah))))))));refine⟨Y,x,C,d,_,.ref sh,rfl,LU.L.hx,D.aO.cl,D.eY,rfl,sh,dS,Y,LU.L.W.hx,rfl,Y,S,sh,dS,st,op,jQ pe,ops,s,rfl,LU.L.W,by rw[lo];exact ia,?_⟩;obtain⟨f0,sn,i3,k4⟩:=k2;refine⟨Y,x,C,d,_,.ref sh,rfl,LU.L.hx,D.aO.cl,D.eY,rfl,sh,dS,Y,LU.L.W.hx,rfl,S,sh,dS,st,op,jQ pe,ops,rfl,LU.L.W,ok,λUL el q H1 S9 s1=>?_⟩;rw[tX]at el;cases el;have sl:s.toNat<rows.length:=by have:=ia.1;have:=ia.2;lia
 obtain⟨es,es1⟩:∃ es,rows[s.toNat]?=some es:=⟨_,qM sl⟩;refine⟨Y,Y,Y,Y,q,rows,s,a,b,to,f0,rfl,⟨S9.at_,Q,sn.es,sn.sd,sn.rk,sn.ss,sn.ln⟩,ia.1,ia.2,i3,λwz q2 H2 oH eL s2 PM=>?_⟩;rw[es1]at oH;cases oH;obtain⟨⟨fB,B⟩,k5⟩:=k4 es es1;have jU:=s1.trans s2;have F8:=LU.same jU
 have PU:q2≠bk:=λe=>by
  have y:=(LU.same s1).L.hb;rw[← e,PM]at y;cases y
 refine⟨Y,x,d,Y,F8.L.hx,rfl,Y,Y,Y,Y,Ws,λt ht=>?_⟩;have s3:=ak ht (.tup [.str "move",.int s,.int a,.int b,.int to]);have M8:(aM H2 t (.tup [.str "move",.int s,.int a,.int b,.int to])) t=some (.tup [.str "move",.int s,.int a,.int b,.int to]):=af;generalize aM H2 t (.tup [.str "move",.int s,.int a,.int b,.int to])=H3 at s3 M8;have ve:=jU.trans s3;have Td:=LU.same ve;have ss:((s.toNat:Nat):Int)=s:=by have:=ia.1;lia
 refine⟨Y,Y,S,x,d,wl,sh,bl,kn,du,bk,dS,st,op,pe,ops,aB,t,q2,.plain mvW [s,a,b,to],s.toNat,_,rows,fB,by rw[ss];rfl,Td.L,(by show H3 t=_;rw[M8,rH];rfl),⟨(by show lQ SE mvW=some 4;decide +kernel),?_⟩,eL.same s3,PU,hl,Q,l1,l2,l3,B,λS' H8 L8 C7=>?_⟩
 ·intro y hy;have b1:=ia.1;have i4:=i3.1;have i5:=i3.2;unfold MW at i4;rcases List.mem_cons.mp hy with e|hy
  ·rw[e];exact⟨b1,fs.big⟩
  rcases List.mem_cons.mp hy with e|hy
  ·rw[e];exact⟨Q,(wB.Xb fa).big⟩
  rcases List.mem_cons.mp hy with e|hy
  ·rw[e];exact⟨Q,(wB.Xb fb).big⟩
  ·rw[List.mem_singleton.mp hy];exact⟨Q,(wB.Xb fo).big⟩
 ·obtain⟨U',hL',f'⟩:=Td.ko L8 C7;exact k5 U' H8 hL' (f'.pre ve)
abbrev stW:List Nat:=(Str.ofString "strike").cps.toList
theorem IT(X:List (List aQ))(r:List (Nat × List aQ))(c:Nat × List aQ):l6 X (r++[c])=Xe (l6 X r) c:=by
 unfold l6;rw[List.foldl_append];rfl
def nR(g:Nat->List aQ)(n:Nat):List (Nat × List aQ):=(List.range n).map λi=>(i,g i)
theorem Av{g:Nat->List aQ}{n:Nat}:nR g (n+1)=nR g n++[(n,g n)]:=by
 unfold nR;rw[List.range_succ,gy];rfl
theorem Aw{X:List (List aQ)}{g:Nat->List aQ}:∀ n:Nat,n<=X.length->l6 X (nR g n)=(List.range n).map g++X.drop n
 | 0,_=>rfl
 | n+1,h=>by
  rw[Av,IT,Aw n ∅];have l:((List.range n).map g).length=n:=by rw[cz,List.length_range]
  have e:X.drop n=X[n]::X.drop (n+1):=List.drop_eq_getElem_cons ∅;unfold Xe;rw[List.take_append_of_le_length ∅,uc ∅,List.drop_append,l,vg ∅,show n+1-n=1 by lia,e,List.drop_succ_cons,List.drop_zero,List.range_succ,gy,List.nil_append];rfl
class inductive Ax(C CS CW CB:Addr)
 | mk (U:Addr->Prop) (x r:Addr) (pe:iS) (aB:iT) (aI:iN) (nW:Nat) (bO row:Row) (rows:cO) (sh:Int->List Int) (_:vs=[.ref x,.ref r]) (_:oG C CS CW CB U H x pe aB aI nW bO) (_:ck H r row) (_:row.length<3) (_:Mt row) (_:pe.getLast?=some rows) (_:rows.length<=50) (_:pe.length<=900) (_:aB.length<=900) (_:rO aI.length row=true) (_:Seen rows sh) (_:∀ (U':Addr->Prop) (H':Hp),oG C CS CW CB U' H' x (pe++[rows.map (nF row)]) (aB++[(jK.qu stW [] row).line]) aI nW bO->Ew U U' H H'->Q .gm H')
theorem oZ:aH ["self","row","rows"] ["self","row"] (aA i9):=fc
theorem we:‹(5,69,["self","row"],(Ax C CS CW CB))›:=λD=>by
 refine fG D.LW.F oZ λdm A zn s0 H vs Q E hr h=>?_;obtain⟨U,x,r,pe,aB,aI,nW,bO,row,rows,f0,rfl,LB,jP,r3,fr,hl,l1,l2,l3,g,sn,k⟩:=h;obtain⟨S,SW,d,wl,sh,bl,kn,du,bk,dS,st,op,dw,sg,ow,pw,db,tb,ops,LU⟩:=id LB;have lo:=kj LU.L hl;have tX:=d7 hl;have lp:(jQ pe).length=pe.length:=cz _;refine⟨_,(aj (aT (cL (pv 0) D.aO D.WH (jW D) hr bN (aa (pv 1) ah))) (aj (aU (i:=2) oZ.nd (ff (dF (pv 0) rfl) D.cH D.A2 (eE D) hr bN)) (au (aT (cL (pv 0) D.aO D.RW (j6 D) hr bN (aa (cJ (aa bH (aa (pv 1) ah))) (aa (gZ (N:=["sheet","row","rows"]) (nL (sc:=aA i9) (NX:=["self","row","rows"]) (jx:=[none,some 1,some 2]) rfl rfl rfl nofun nofun rfl nofun rfl nofun) rfl (gJ rfl D.T.jc (aa (fX D.T.fj (pv 2)) ah)) (λ_ _ _ _ _ _=>(b8 (i:=0) (show List.Nodup (["sheet","row","rows"]:List Str) by decide +kernel))) (λ_ _ _ _ _ _=>jb) (λ_ _ _ _ _ _=>(cJ (aa (pv 0) (aa (aC D.ZQ (yD D) hr (aa (pv 2) (aa (pv 0) (aa (pv 1) ah)))) ah))))) ah))))))),?_⟩;refine⟨Y,x,d,Y,LU.L.hx,rfl,Y,U,x,r,pe,aB,aI,nW,bO,row,rfl,LB,jP,by have:=fr.1;lia,g,λH1 s1=>?_⟩;have LU1:=LU.same s1;refine⟨Y,x,C,d,_,.ref sh,rfl,LU1.L.hx,D.aO.cl,D.eY,rfl,sh,dS,Y,LU1.L.W.hx,rfl,S,sh,dS,st,op,jQ pe,ops,rfl,LU1.L.W,⟨Q,Q⟩,λUL el q H2 fs2 s2=>?_⟩;rw[tX]at el;cases el;have R2:=fs2.at_;obtain⟨fq,rs,hq,al⟩:=fs2;have lrs:rs.length=rows.length:=by rw[al.len,cz]
 have jU:=s1.trans s2;have F8:=LU.same jU;refine⟨Y,x,d,Y,F8.L.hx,rfl,Y,lF,λt ht=>?_⟩;have s3:=ak ht (.tup [.str "strike",.ref r]);have M8:(aM H2 t (.tup [.str "strike",.ref r])) t=some (.tup [.str "strike",.ref r]):=af;generalize aM H2 t (.tup [.str "strike",.ref r])=H3 at s3 M8 ⊢;have ve:=jU.trans s3;have vL:=s3 _ _ hq;have Uo:=(LU.same ve).L.hb;have hp:=Cy g;obtain⟨gg,hgg⟩:∃ gg:Nat->List aQ,gg=λi=>aF (nF row ((rows[i]?).getD [])):=⟨Y⟩
 have kI:∀ {H4 H5:Hp} {acc:Addr} {xs:List V} {v:V} {aL:List aQ},H4 acc=some (.lst xs)->cB acc H4 H5->v≠.ref acc->bz H4 v aL->bz H5 v aL:=λha kk n h=>by
  obtain⟨b,IA,rfl,hb,al⟩:=h;exact⟨b,IA,rfl,kk _ _ hb (λz=>n (by rw[z])),al.mono λv j h=>h.keep ha kk⟩
 refine⟨Y,q,Y,.inl (bI.of vL),Y,Q,(by rw[cz];lia),λacc cT=>rF (lo:=0) (k:=(((rs.map V.ref).length:Nat):Int).toNat) (λi σ H4=>∃ (u:Option V) (cs:List Addr),σ=[u,some (.ref r),some (.ref q)]/\H4 acc=some (.lst (cs.map V.ref))/\cu (λa ch=>∃ r',H4 a=some (.tup [.int (ch.1:Nat),.ref r'])/\r'≠bk/\r'≠acc/\bz H4 (.ref r') ch.2) cs (nR gg i)/\aK H3 H4) ⟨none,[],rfl,af,.nil,ak cT _⟩ ?_ ?_⟩
 ·rintro i σ H4 hi ⟨u,cs,rfl,h4,a4,s4⟩;rw[Int.toNat_natCast,cz,lrs]at hi;have lc:=a4.len;unfold nR at lc;rw[cz,List.length_range]at lc;obtain⟨es,oH⟩:∃ es,rows[i]?=some es:=⟨_,qM hi⟩;have s34:=s3.trans s4;rw[Int.zero_add];refine VY (jA ⟨Y,Y,Y,Y,q,r,rows,(i:Nat),f0,row,rfl,⟨R2.same s34,Q,sn.es,sn.sd,sn.rk,sn.ss,sn.ln⟩,Q,Q,(jP.same ve).same s4,by have:=fr.1;lia,(λp h=>by have:=hp p h;lia),λes2 o H5 PZ ho s5 fo=>?_⟩);rw[Int.toNat_natCast,oH]at PZ;cases PZ;have h5:=s5 _ _ h4;refine⟨lF,λtt htt=>?_⟩;have s6:=ak htt (.tup [.int (i:Nat),.ref o]);have h6:=s6 _ _ h5;refine⟨_,h6,(by rw[cz];exact aR ∅),_,cs++[tt],rfl,?_,?_,bS cT (s4.trans (s5.trans s6)) (aG acc _ _)⟩
  ·rw[af,gy];rfl
  have K7:=aG acc (aM H5 tt (.tup [.int (i:Nat),.ref o])) (.lst (cs.map V.ref++[.ref tt]));have noa:o≠acc:=(az h4 fo).symm;rw[Av];refine cu.snoc (a4.mono λa ch ⟨r',e1,e2,e3,e4⟩=>⟨r',K7 _ _ (s6 _ _ (s5 _ _ e1)) (cV (s6 _ _ (s5 _ _ e1)) h6 (by intro z;cases z)),e2,e3,kI h6 K7 (λz=>e3 (V.ref.inj z)) ((e4.same s5).same s6)⟩) ⟨o,K7 _ _ af (az h5 htt).symm,?_,noa,?_⟩
  ·exact (az (s4 _ _ Uo) fo).symm
  ·have eg:gg i=aF (nF row es):=by rw[hgg];show aF (nF row ((rows[i]?).getD []))=_;rw[oH];rfl
   show bz _ (.ref o) (gg i);rw[eg];exact kI h6 K7 (λz=>noa (V.ref.inj z)) (ho.same s6)
 ·rintro σ H4 ⟨u,cs,rfl,h4,a4,s4⟩;rw[Int.toNat_natCast,cz,lrs]at a4;have DP:=ve.trans s4;have LU4:=LU.same DP;have lX:(rows.map aF).length=rows.length:=cz _
  have eA:l6 (rows.map aF) (nR gg rows.length)=(rows.map (nF row)).map aF:=by
   rw[Aw _ ∅,vg ∅,gK,List.map_map];refine List.ext_getElem? λj=>?_;rw[fP,fP];by_cases c:j<rows.length
   ·rw[List.getElem?_range c,hgg];show some (aF (nF row ((rows[j]?).getD [])))=_;rw[qM c];rfl
   ·rw[List.getElem?_eq_none (by rw[List.length_range];lia),List.getElem?_eq_none ∅];rfl
  have lA:(nR gg rows.length).length=rows.length:=by unfold nR;rw[cz,List.length_range]
  have nac:acc≠bk:=(az Uo cT).symm;refine⟨S,x,d,wl,sh,bl,kn,du,bk,dS,st,op,jQ pe,ops,aB,t,acc,.qu stW [] row,cs,nR gg rows.length,rows.map aF,rfl,LU4.L,⟨r,by rw[s4 _ _ M8,rH];rfl,jP.same DP⟩,⟨(by show lQ Yb stW=some 0;decide +kernel),(λ_ z=>by cases z),fr⟩,h4,nac,a4.mono λa ch ⟨r',e1,P,e4⟩=>⟨r',e1,e4⟩,?_,tX,?_,Q,Q,Q,Q,λS' H5 L5 Hf=>?_⟩
  ·intro a ha s r2 e;obtain⟨j,hj⟩:=List.mem_iff_getElem?.mp ha;obtain⟨ch,_,r',e1,e2,_⟩:=a4.get hj;rw[e1]at e;cases e;exact e2
  ·intro j ch ej;have jl:=(List.getElem?_eq_some_iff.mp ej).1;rw[lA]at jl
   have et:(nR gg rows.length).take j=nR gg j:=by
    unfold nR;rw[← List.map_take,List.take_range,Nat.min_eq_left ∅]
   have ec:ch.1=j:=by
    unfold nR at ej;rw[fP,List.getElem?_range jl]at ej;cases ej;rfl
   rw[et,Aw _ ∅,ec,cP,cz,List.length_range];lia
  ·rw[eA]at L5
   have ep:jQ pe++[(rows.map (nF row)).map aF]=jQ (pe++[rows.map (nF row)]):=by
    show _=(pe++[rows.map (nF row)]).map _;rw[gy];rfl
   have eo:ops++List.replicate (((rows.map (nF row)).map aF).length-(rows.map aF).length) (((jQ pe).length:Nat):Int)=ops:=by
    rw[cz,cz,cz,Nat.sub_self];exact gK _
   rw[ep,eo]at L5;obtain⟨U',hL',f'⟩:=LU4.ko L5 Hf;exact k U' H5 hL' (f'.pre DP)
theorem P0{z:Str}{i:Int}{n:Nat}(hn:z.length=n)(h0:0<=i)(h1:i<n):∃ c,pG z.cps.toList i=some c:=by
 have hl:i.toNat<z.cps.toList.length:=by
  have:z.cps.toList.length=z.length:=by show _=z.cps.size;simp
  lia
 exists z.cps.toList[i.toNat];have e:pG z.cps.toList ((i.toNat:Nat):Int)=some z.cps.toList[i.toNat]:=dc (by simp);rw[Int.toNat_of_nonneg h0]at e;exact e
class inductive Tf
 | mk (l c:Addr) (b:Bool) (_:vs=[.ref l,.bl b]) (_:dB H l c) (_: ∀ (ch:Nat) (H':Hp),dB H' l c->(∀ a,a≠l->H' a=H a)->Q (Ce ch) H')
class inductive Tg
 | mk (l c:Addr) (m:Nat) (_:vs=[.ref l,.int (m:Nat)]) (_:dB H l c) (_:m<=1000) (_: ∀ (cs:List Nat) (H':Hp),cs.length=m->dB H' l c->cB l H H'->Q (.str (fF cs)) H')
theorem yl:aH ["_law_src_here","_law_few","_law_some"] ["_law_src_here","_law_few"] (aA uB):=fc
theorem yo:aH ["_law_src_here","_law_many","_law_few"] ["_law_src_here","_law_many"] (aA pU):=fc
theorem Ga:‹(2,70,["_law_src_here","_law_few"],Tf)›:=λD=>by
 specialize fG D.aac.F yl;obtain⟨l,c,b,rfl,S,k⟩:=h;refine⟨_,(aj (aU (i:=2) yl.nd bH) (aj (bP (ku (pv 1) (λ_=>rfl)) (au (aN (aP NH bH (aC D.yd (fY D) hr (aa (pv 0) (aa ay ah)))))) bf) (au (aN (aP NH (pv 2) (aC D.yd (fY D) hr (aa (pv 0) (aa ay ah)))))))),?_⟩;refine⟨Y,b,rfl,cW (λ_=>?_) (λ_=>?_)⟩
 ·refine⟨Y,l,c,4,rfl,S,E,E,λv H1 a0 a1 S1 k1=>?_⟩;obtain⟨ch,e⟩:=P0 (z:=Str.ofString "a# b") (n:=4) nofun a0 a1;exact⟨P,ch,V,nofun,e,k ch H1 S1 k1⟩
 ·refine⟨Y,Y,l,c,94,rfl,S,E,E,λv H1 a0 a1 S1 k1=>?_⟩;obtain⟨ch,e⟩:=P0 (z:=Str.ofString " !\"#$&'()*+,-./0123456789:;<=>?@ABCDEFGHIJKLMNOPQRSTUVWXYZ[\\]^_`abcdefghijklmnopqrstuvwxyz{|}~") (n:=94) nofun a0 a1;exact⟨P,ch,V,nofun,e,k ch H1 S1 k1⟩
theorem Gb:‹(3,71,["_law_src_here","_law_many"],Tg)›:=λD=>by
 specialize fG D.aad.F yo;obtain⟨l,c,m,rfl,S,hm,k⟩:=h;refine⟨_,(aj (aU (i:=2) yo.nd (lT dR (aC D.yd (fY D) hr (aa (pv 0) (aa ay ah))) ay (bh _))) (au (aN (dX PySem.F.plainAttrs_str PySem.F.slot_str_join PySem.F.type_str_join OM bH (aa (gZ (N:=["_law_k","_law_src_here","_law_few"]) (nL (sc:=aA pU) (NX:=["_law_src_here","_law_many","_law_few"]) (jx:=[none,some 0,some 2]) rfl rfl rfl nofun nofun rfl nofun rfl nofun) rfl (gJ rfl D.T.jc (aa (pv 1) ah)) (λ_ _ _ _ _ _=>(b8 (i:=0) (show List.Nodup (["_law_k","_law_src_here","_law_few"]:List Str) by decide +kernel))) (λ_ _ _ _ _ _=>jb) (λ_ _ _ _ _ _=>(aC D.aac (Ga D) hr (aa (pv 1) (aa (pv 2) ah))))) ah))))),?_⟩;refine⟨Y,l,c,2,rfl,S,E,E,λv H1 _ _ S1 k1=>⟨rfl,?_⟩⟩;have K1:cB l H H1:=λb o e m=>(k1 b m).trans e;refine⟨rfl,Y,(m:Nat),rfl,Q,Q,λacc cT=>rF (lo:=0) (k:=((m:Nat):Int).toNat) (λi σ H2=>∃ (u:Option V) (cs:List Nat),σ=[u,some (.ref l),some (.bl (decide (V.int v=V.int 0)))]/\H2 acc=some (.lst (cs.map Ce))/\cs.length=i/\dB H2 l c/\cB l H H2) ⟨none,[],rfl,af,rfl,S1.same (ak cT _),λb o e m=>ak cT _ _ _ (K1 _ _ e m)⟩ ?_ ?_⟩
 ·rintro i σ H2 hi ⟨u,cs,rfl,ha,hl,S2,K2⟩;have na:acc≠l:=(S1.ne cT).1.symm;have nc:acc≠c:=(S1.ne cT).2.symm;refine⟨Y,Y,l,c,Y,S2,λch H3 S3 k3=>⟨_,by rw[k3 acc na];exact ha,(by rw[cz];exact aR ∅),_,cs++[ch],rfl,?_,?_,?_,?_⟩⟩
  ·rw[af,gy];rfl
  ·rw[cP,hl];rfl
  ·exact S3.keep (aG acc _ _) na.symm nc.symm
  ·intro b o e m;by_cases z:b=acc
   ·rw[z]at e;have:=iE K1 na cT;rw[this]at e;cases e
   rw[aJ z,k3 b m];exact K2 _ _ e m
 ·rintro σ H2 ⟨u,cs,rfl,ha,hl,S2,K2⟩;have tX:cs.length=m:=by lia
  exact⟨acc,cs,V,ha,Q,k cs H2 tX S2 K2⟩
theorem DT{α β:Type}{F:α->β->Prop}{xs:List α}{ys:List β}{x:α}{y:β}(h:Paired F xs ys)(e:F x y):Paired F (xs++[x]) (ys++[y]):=by
 induction h with
 | nil=>exact .cons e .nil
 | cons r _ ih=>exact .cons r ih
theorem Bh{α β:Type}{F:α->β->Prop}{xs Zd:List α}{ys ys':List β}(h:Paired F xs ys)(t:Paired F Zd ys'):Paired F (xs++Zd) (ys++ys'):=by
 induction h with
 | nil=>exact t
 | cons e _ ih=>exact .cons e ih
def KD(H:Hp)(a:Addr)(q:Int × Nat):Prop:=H a=some (.tup [.int q.1,Ce q.2])
inductive DU(H:Hp)(v:Addr)(aI:iN):Prop
 | mk (as:List Addr) (_:H v=some (.lst (as.map V.ref))) (_:Paired (KD H) as aI)
abbrev kI:eT:=.inr (Str.ofString "ink")
abbrev kR:eT:=.inr (Str.ofString "rows")
abbrev kP:eT:=.inr (Str.ofString "past")
abbrev kVl:eT:=.inr (Str.ofString "veil")
abbrev vf(ik rw ps vl:Addr):List (eT × V):=[(kI,.ref ik),(kR,.ref rw),(kP,.ref ps),(kVl,.ref vl)]
def UP(W:Addr->Prop)(ik ps:Addr)(H:Hp)(v:V)(es:List Int):Prop:=∃ b,v=.ref b/\W b/\b≠ik/\b≠ps/\H b=some (.lst (es.map V.int))
def Na(W:Addr->Prop)(ik ps:Addr)(H:Hp)(a:Addr)(rows:cO):Prop:=W a/\a≠ik/\a≠ps/\∃ vs,H a=some (.lst vs)/\cu (UP W ik ps H) vs rows
structure MF(W:Addr->Prop)(H:Hp)(w ik rw ps vl:Addr)(aI:iN)(pe:iS)(rows:cO):Prop where
 ww:W w
 wi:W ik
 wp:W ps
 wv:W vl
 al:∀ a,W a->∃ ob,H a=some ob
 hw:H w=some (.dK (vf ik rw ps vl))
 hi:DU H ik aI
 hr:Na W ik ps H rw rows
 hp:∃ vs,H ps=some (.lst vs)/\cu (λv rs=>∃ a,v=.ref a/\Na W ik ps H a rs) vs pe
 ne:ik≠ps
 lst:pe.getLast?=some rows
 hv:H vl=some (.lst [])
 nv:vl≠ik/\vl≠ps
def Wo(W:Addr->Prop)(H:Hp)(w:Addr)(aI:iN)(pe:iS)(rows:cO):Prop:=∃ ik rw ps vl,MF W H w ik rw ps vl aI pe rows
theorem UP.fr{W W':Addr->Prop}{H H':Hp}{v:V}{es:List Int}(s:∀ a,W a->W' a)(k:∀ a xs,H a=some (.lst xs)->W a->a≠ik->a≠ps->H' a=some (.lst xs)):UP W ik ps H v es->UP W' ik ps H' v es:=λ⟨b,e,w,n1,n2,h⟩=>⟨b,e,s _ w,n1,n2,k _ _ h w n1 n2⟩
theorem Na.fr{W W':Addr->Prop}{H H':Hp}{a:Addr}{rows:cO}(s:∀ a,W a->W' a)(k:∀ a xs,H a=some (.lst xs)->W a->a≠ik->a≠ps->H' a=some (.lst xs)):Na W ik ps H a rows->Na W' ik ps H' a rows:=λ⟨w,n1,n2,vs,h,al⟩=>⟨s _ w,n1,n2,vs,k _ _ h w n1 n2,al.mono λ_ _=>UP.fr s k⟩
theorem DU.two{H H':Hp}{v:Addr}{aI:iN}(h:DU H v aI)(k:∀ xs,H v=some (.lst xs)->H' v=some (.lst xs))(t:∀ a xs,H a=some (.tup xs)->H' a=some (.tup xs)):DU H' v aI:=by
 obtain⟨as,hv,pa⟩:=h;exact⟨as,k _ hv,Paired.CH pa λa q e=>t _ _ e⟩
theorem MF.fr{W:Addr->Prop}{H H':Hp}{w rw vl:Addr}{aI:iN}{pe:iS}{rows:cO}(h:MF W H w ik rw ps vl aI pe rows)(k:∀ a ob,H a=some ob->W a->H' a=some ob)(t:∀ a xs,H a=some (.tup xs)->H' a=some (.tup xs)):MF W H' w ik rw ps vl aI pe rows:=by
 obtain⟨ww,wi,wp,wv,al,hw,hi,hr,⟨vs,hp,a2⟩,ne,lst,hv,nv⟩:=h;refine⟨ww,wi,wp,wv,λa z=>?_,k _ _ hw ww,hi.two (λxs e=>k _ _ e wi) t,hr.fr (λ_ z=>z) (λa xs e z _ _=>k _ _ e z),⟨vs,k _ _ hp wp,a2.mono λv rs ⟨a,e,z⟩=>⟨a,e,z.fr (λ_ y=>y) (λa xs e y _ _=>k _ _ e y)⟩⟩,ne,lst,k _ _ hv wv,nv⟩;obtain⟨ob,e⟩:=al a z;exact⟨ob,k _ _ e z⟩
theorem Wo.fr{W:Addr->Prop}{H H':Hp}{w:Addr}{aI:iN}{pe:iS}{rows:cO}(h:Wo W H w aI pe rows)(k:∀ a ob,H a=some ob->W a->H' a=some ob)(t:∀ a xs,H a=some (.tup xs)->H' a=some (.tup xs)):Wo W H' w aI pe rows:=by
 obtain⟨ik,rw,ps,vl,z⟩:=h;exact⟨ik,rw,ps,vl,z.fr k t⟩
theorem Wo.same{W:Addr->Prop}{H H':Hp}{w:Addr}{aI:iN}{pe:iS}{rows:cO}(h:Wo W H w aI pe rows)(s:aK H H'):Wo W H' w aI pe rows:=h.fr (λa ob e _=>s a ob e) λa xs e=>s _ _ e
def KG:Sp:=λvs H Q _=>vs=[]/\∀ (W:Addr->Prop) (w:Addr) (H':Hp),Wo W H' w [] [[]] []->(∀ a,W a->H a=none)->aK H H'->Q (.ref w) H'
theorem DV:aH [] [] (aA nK):=fc
theorem aa3{X:Cx}{s1 s2 s3 s4:Str}{a1 a2 a3 a4:Nat}{p1 p2 p3 p4 pos:Pos}{v1 v2 v3 v4:Expr}{t1 t2 t3 t4:TE}(h1:PE X v1 t1)(h2:PE X v2 t2)(h3:PE X v3 t3)(h4:PE X v4 t4) :
  PE X (.Dict [some (.Constant (.str s1) a1 p1),some (.Constant (.str s2) a2 p2),some (.Constant (.str s3) a3 p3),some (.Constant (.str s4) a4 p4)] [v1,v2,v3,v4] pos) (Oo [(tC (.str s1),t1),(tC (.str s2),t2),(tC (.str s3),t3),(tC (.str s4),t4)]) :=
 RB (vD bH h1 (vD bH h2 (vD bH h3 (vD bH h4 RA)))) rfl rfl (by simp) (by show 4<=15;decide)
abbrev tWo:TE:=Oo [(tC (.str "ink"),Lc zo),(tC (.str "rows"),Lc zo),(tC (.str "past"),Lc (Ny (Lc zo) zo)),(tC (.str "veil"),Lc zo)]
theorem P1:∃ (e:Expr) (p:Pos),jz nK=[.Return (some e) p]/\∀ X:Cx,PE X e tWo :=
 ⟨P,rfl,λX=>@aa3 X _ _ _ _ _ _ _ _ _ _ _ _ _ _ _ _ _ _ _ _ _ (bM ah) (bM ah) (bM (aa (bM ah) ah)) (bM ah)⟩
theorem DW:‹(1,72,[],KG)›:=λD=>by
 specialize fG D.RZ.F DV;obtain⟨rfl,k⟩:=h;obtain⟨e,p,he,pw⟩:=P1;rw[he];exists _,au (aN (pw _));intro w hw;refine⟨iG,λik Ge=>⟨iG,λrw hrw=>⟨iG,λz hz=>⟨m6,λps Nb=>⟨iG,λvl Th=>?_⟩⟩⟩⟩⟩;have s0:=ak hw (.dK []);have w0:(aM H w (.dK [])) w=some (.dK []):=af;generalize aM H w (.dK [])=H0 at s0 w0 Ge hrw hz Nb Th;have s1:=ak Ge (.lst []);have i1:(aM H0 ik (.lst [])) ik=some (.lst []):=af;generalize aM H0 ik (.lst [])=H1 at s1 i1 hrw hz Nb Th;have s2:=ak hrw (.lst []);have r2:(aM H1 rw (.lst [])) rw=some (.lst []):=af;generalize aM H1 rw (.lst [])=H2 at s2 r2 hz Nb Th;have s3:=ak hz (.lst []);have z3:(aM H2 z (.lst [])) z=some (.lst []):=af;generalize aM H2 z (.lst [])=H3 at s3 z3 Nb Th;have s4:=ak Nb (.lst [.ref z]);have p4:(aM H3 ps (.lst [.ref z])) ps=some (.lst [.ref z]):=af;generalize aM H3 ps (.lst [.ref z])=H4 at s4 p4 Th;have s5:=ak Th (.lst []);have v5:(aM H4 vl (.lst [])) vl=some (.lst []):=af;generalize aM H4 vl (.lst [])=H5 at s5 v5;have PX:aK H1 H5:=s2.trans (s3.trans (s4.trans s5));have s05:aK H0 H5:=s1.trans PX;have w5:=s05 _ _ w0;have i5:=PX _ _ i1;have r5:=(s3.trans (s4.trans s5)) _ _ r2;have z5:=(s4.trans s5) _ _ z3;have p5:=s5 _ _ p4;have nl:∀ {a:Addr} {xs:List V},H5 a=some (.lst xs)->a≠w:=λ{a xs} e q=>by rw[q,w5]at e;cases e
 have n1:rw≠ik:=(az i1 hrw).symm;have n2:rw≠ps:=az (s3 _ _ r2) Nb;have n3:z≠ik:=(az (s2 _ _ i1) hz).symm;have n4:z≠ps:=az z3 Nb;have n5:ik≠ps:=az ((s2.trans s3) _ _ i1) Nb;refine⟨w5,vf ik rw ps vl,rfl,(by show 4<=15;decide),?_⟩;rw[show wY [] (vf ik rw ps vl)=vf ik rw ps vl by kernel_rfl];have up:∀ {a:Addr} {xs:List V},H5 a=some (.lst xs)->(aM H5 w (.dK (vf ik rw ps vl))) a=some (.lst xs):=λ{a xs} e=>by rw[aJ (nl e)];exact e
 have f0:∀ a,H0 a=none->H a=none:=λa e=>aY s0 e;refine k (λa=>a=w\/a=ik\/a=rw\/a=z\/a=ps\/a=vl) w _ ⟨ik,rw,ps,vl,.inl rfl,.inr (.inl rfl),.inr (.inr (.inr (.inr (.inl rfl)))),.inr (.inr (.inr (.inr (.inr rfl)))),λa e=>?_,af,⟨[],up i5,.nil⟩,⟨.inr (.inr (.inl rfl)),n1,n2,[],up r5,.nil⟩,⟨[.ref z],up p5,.cons ⟨z,rfl,.inr (.inr (.inr (.inl rfl))),n3,n4,[],up z5,.nil⟩ .nil⟩,n5,rfl,up v5,(az ((s2.trans (s3.trans s4)) _ _ i1) Th).symm,(az p4 Th).symm⟩ (λa e=>?_) (bS hw (s0.trans s05) (aG w _ _))
 ·rcases e with rfl|rfl|rfl|rfl|rfl|rfl
  ·exact⟨_,af⟩
  ·exact⟨_,up i5⟩
  ·exact⟨_,up r5⟩
  ·exact⟨_,up z5⟩
  ·exact⟨_,up p5⟩
  ·exact⟨_,up v5⟩
 ·rcases e with rfl|rfl|rfl|rfl|rfl|rfl
  ·exact hw
  ·exact f0 _ Ge
  ·exact f0 _ (aY s1 hrw)
  ·exact f0 _ (aY s1 (aY s2 hz))
  ·exact f0 _ (aY s1 (aY s2 (aY s3 Nb)))
  ·exact f0 _ (aY s1 (aY s2 (aY s3 (aY s4 Th))))
class inductive Xs
 | mk (W:Addr->Prop) (w r:Addr) (aI:iN) (pe:iS) (rows rows':cO) (_:vs=[.ref w,.ref r]) (_:Wo W H w aI pe rows) (_:pe.length<=1000) (_:(∀ ik ps,(∃ rw vl,H w=some (.dK (vf ik rw ps vl)))->Na W ik ps H r rows')) (_: ∀ (H':Hp),Wo W H' w aI (pe++[rows']) rows'->(∀ a ob,H a=some ob->¬ W a->H' a=some ob)->(∀ a xs,H a=some (.tup xs)->H' a=some (.tup xs))->(∀ ik rw ps vl,H w=some (.dK (vf ik rw ps vl))->∀ a xs,H a=some (.lst xs)->a≠ps->H' a=some (.lst xs))->Q .gm H')
theorem Gf:aH ["_law_world_here","_law_rows"] ["_law_world_here","_law_rows"] (aA uC):=fc
theorem rV:‹(1,73,["_law_world_here","_law_rows"],Xs)›:=λD=>by
 specialize fG D.R0.F Gf;obtain⟨W,w,r,aI,pe,rows,rows',rfl,⟨ik,rw,ps,vl,h⟩,lp,hr',k⟩:=h;have hu:=gT hr;exists _,(aj (vC hu (pv 0) bH (pv 1) rfl) (au (aT (dX qC jX jY bU (ie hu (pv 0) bH) (aa (pv 1) ah)))));have Fv:=hr' ik ps ⟨rw,vl,h.hw⟩;refine⟨Y,Y,w,Y,Dc.k (k:=kR) h.hw (by show 4<sizeLine;decide),?_⟩;rw[show eK (vf ik rw ps vl) kR (.ref r)=vf ik r ps vl by kernel_rfl];obtain⟨Xu,hp,al⟩:=h.hp;have k1:=aG w H (.dK (vf ik r ps vl));have w1:(aM H w (.dK (vf ik r ps vl))) w=some (.dK (vf ik r ps vl)):=af;have nw:∀ {a:Addr} {o:HO},H a=some o->(∀ kvs,o≠.dK kvs)->a≠w:=λ{a o} e n q=>by rw[q,h.hw]at e;cases e;exact n _ rfl
 generalize aM H w (.dK (vf ik r ps vl))=H1 at k1 w1;have RH:=k1 _ _ hp (nw hp (λ_ z=>by cases z));have z:=jD.k (k:=kP) w1;rw[show cI (vf ik r ps vl) kP=some (.ref ps) by kernel_rfl]at z;have lpv:Xu.length=pe.length:=al.len;refine⟨Y,w,Y,z,.inl ⟨rfl,_,bI.of RH⟩,Y,ps,Z,RH,aR ∅,?_⟩;have nps:w≠ps:=(nw hp (λ_ z=>by cases z)).symm
 have ls:∀ a xs,H a=some (.lst xs)->a≠ps->(aM H1 ps (.lst (Xu++[.ref r]))) a=some (.lst xs):=λa xs e n=>by
  rw[aJ n];exact k1 _ _ e (nw e (λ_ z=>by cases z))
 have tp:∀ a xs,H a=some (.tup xs)->(aM H1 ps (.lst (Xu++[.ref r]))) a=some (.tup xs):=λa xs e=>by
  rw[aJ (cV e hp)];exact k1 _ _ e (nw e (λ_ z=>by cases z))
 have rwf:∀ {a:Addr} {rs:cO},Na W ik ps H a rs->Na W ik ps (aM H1 ps (.lst (Xu++[.ref r]))) a rs:=λ{a rs} q=>q.fr (λ_ y=>y) λa xs e _ _ n=>ls a xs e n;have LX:=rwf Fv
 refine k _ ⟨ik,r,ps,vl,h.ww,h.wi,h.wp,h.wv,λa wa=>?_,?_,h.hi.two (λxs e=>ls _ _ e h.ne) tp,LX,⟨_,af,(al.mono λv rs ⟨a,e,q⟩=>⟨a,e,rwf q⟩).app (.cons ⟨r,rfl,LX⟩ .nil)⟩,h.ne,jR,ls _ _ h.hv h.nv.2,h.nv⟩ (λa ob e n=>?_) tp λik' rw2 wC vl' ee a xs e n=>ls a xs e (by
  rw[h.hw]at ee;simp only[Option.some.injEq,HO.dK.injEq,vf,List.cons.injEq,Prod.mk.injEq,V.ref.injEq,true_and,and_true]at ee;rw[ee.2.2.1]
  exact n)
 ·by_cases e1:a=ps
  ·rw[e1];exact⟨_,af⟩
  rw[aJ e1];by_cases e2:a=w
  ·rw[e2];exact⟨_,w1⟩
  ·obtain⟨ob,e⟩:=h.al a wa;exact⟨ob,k1 _ _ e e2⟩
 ·rw[aJ nps];exact w1
 ·rw[aJ (λq=>n (by rw[q];exact h.wp))];exact k1 _ _ e (λq=>n (by rw[q];exact h.ww))
theorem oG.al{U:Addr->Prop}{H:Hp}{x:Addr}{pe:iS}{aB:iT}{aI:iN}{nW:Nat}{bO:Row}(h:oG C CS CW CB U H x pe aB aI nW bO){a:Addr}(z:U a):∃ ob,H a=some ob:=by
 obtain⟨S,SW,d,wl,sh,bl,kn,du,bk,dS,st,op,dw,sg,ow,pw,db,tb,ops,L,W,B,R,Fx,dj,db',dt,u⟩:=h;obtain⟨as,hR,_⟩:=R;rcases (u a).mp z with y|y|y|y|y|y
 ·exact L.W.al a y
 ·exact W.al a y
 ·rw[y];exact⟨_,L.hb⟩
 ·rw[y];exact⟨_,L.hx⟩
 ·rw[y];exact⟨_,B⟩
 ·rw[y];exact⟨_,hR⟩
theorem Wo.al{W:Addr->Prop}{H:Hp}{w:Addr}{aI:iN}{pe:iS}{rows:cO}(h:Wo W H w aI pe rows){a:Addr}(z:W a):∃ ob,H a=some ob:=by
 obtain⟨ik,rw,ps,vl,y⟩:=h;exact y.al a z
structure qK(C CS CW CB:Addr)(H:Hp)(l c w x:Addr)(U W:Addr->Prop)(pe:iS)(rows:cO)(pq:iS)(rq:cO)(aB:iT)(aI:iN)(nW:Nat)(bO:Row):Prop where
 src:dB H l c
 GZ:oG C CS CW CB U H x pe aB aI nW bO
 lst:pe.getLast?=some rows
 wo:Wo W H w aI pq rq
 du:∀ a,U a->¬ W a/\a≠l/\a≠c
 dw:∀ a,W a->a≠l/\a≠c
def IU(l:Addr)(U W U' W':Addr->Prop)(H H':Hp):Prop:=(∀ a,U' a\/W' a->U a\/W a\/H a=none)/\(∀ a ob,H a=some ob->a≠l->¬ U a->¬ W a->H' a=some ob)/\∀ a xs,H a=some (.tup xs)->H' a=some (.tup xs)
theorem IU.trans{l:Addr}{U W U1 W1 U2 W2:Addr->Prop}{H H1 H2:Hp}(f:IU l U W U1 W1 H H1)(hl:∃ ls,H1 l=some ls)(g:IU l U1 W1 U2 W2 H1 H2):IU l U W U2 W2 H H2:=by
 have key:∀ a,U1 a\/W1 a\/H1 a=none->U a\/W a\/H a=none:=by
  intro a z;rcases z with z|z|z
  ·exact f.1 a (.inl z)
  ·exact f.1 a (.inr z)
  by_cases u:U a
  ·exact .inl u
  by_cases v:W a
  ·exact .inr (.inl v)
  refine .inr (.inr ?_)
  cases ea:H a with
  | none=>rfl
  | some ob =>
   exfalso;by_cases n:a=l
   ·obtain⟨ls,hl⟩:=hl;rw[n,hl]at z;cases z
   rw[f.2.1 _ _ ea n u v]at z;cases z
 have wW:∀ a ob,H a=some ob->¬ U a->¬ W a->¬ U1 a/\¬ W1 a:=by
  intro a ob e u v;refine⟨λz=>?_,λz=>?_⟩
  ·rcases f.1 a (.inl z) with y|y|y
   ·exact u y
   ·exact v y
   ·rw[y]at e;cases e
  ·rcases f.1 a (.inr z) with y|y|y
   ·exact u y
   ·exact v y
   ·rw[y]at e;cases e
 exact⟨λa z=>key a (g.1 a z),λa ob e n u v=>g.2.1 _ _ (f.2.1 _ _ e n u v) n (wW a ob e u v).1 (wW a ob e u v).2,λa xs e=>g.2.2 _ _ (f.2.2 _ _ e)⟩
theorem qK.mv{H H':Hp}{l c w x:Addr}{U W:Addr->Prop}{pe:iS}{rows:cO}{pq:iS}{rq:cO}{aB:iT}{aI:iN}{nW:Nat}{bO:Row}(h:qK C CS CW CB H l c w x U W pe rows pq rq aB aI nW bO)(k:cB l H H')(s:dB H' l c):qK C CS CW CB H' l c w x U W pe rows pq rq aB aI nW bO:=by
 obtain⟨ls,hl⟩:=h.src.lst;have t:∀ a xs,H a=some (.tup xs)->H' a=some (.tup xs):=λa xs e=>k _ _ e (cV e hl);exact⟨s,h.GZ.fr (λa ob e z=>k _ _ e (h.du a z).2.1) t,h.lst,h.wo.fr (λa ob e z=>k _ _ e (h.dw a z).1) t,h.du,h.dw⟩
theorem qK.same{H H':Hp}{l c w x:Addr}{U W:Addr->Prop}{pe:iS}{rows:cO}{pq:iS}{rq:cO}{aB:iT}{aI:iN}{nW:Nat}{bO:Row}(h:qK C CS CW CB H l c w x U W pe rows pq rq aB aI nW bO)(s:aK H H'):qK C CS CW CB H' l c w x U W pe rows pq rq aB aI nW bO:=h.mv (λa o e _=>s a o e) (h.src.same s)
theorem Gg{α:Type}{xs:List α}{v:Int}(v0:0<=v)(v1:v<xs.length):∃ x∈xs,pG xs v=some x:=by
 obtain⟨j,rfl⟩:∃ j:Nat,v=j:=⟨v.toNat,Q⟩;have hj:j<xs.length:=by lia
 exact⟨xs[j],List.getElem_mem hj,dc (qM hj)⟩
theorem qK.UQ{W W':Addr->Prop}{H:Hp}{w rw vl:Addr}{aI:iN}{pe:iS}{rows:cO}(h:MF W H w ik rw ps vl aI pe rows)(s:∀ a,W a->W' a)(al:∀ a,W' a->∃ ob,H a=some ob):MF W' H w ik rw ps vl aI pe rows:=by
 obtain⟨ww,wi,wp,wv,_,hw,hi,hr,⟨vs,hp,a2⟩,ne,lst,hv,nv⟩:=h;exact⟨s _ ww,s _ wi,s _ wp,s _ wv,al,hw,hi,hr.fr s (λa xs e _ _ _=>e),⟨vs,hp,a2.mono λv rs ⟨a,e,z⟩=>⟨a,e,z.fr s (λa xs e _ _ _=>e)⟩⟩,ne,lst,hv,nv⟩
theorem dB.fru{U U':Addr->Prop}{H H':Hp}{l c:Addr}(S:dB H l c)(fr:Ew U U' H H')(nl:¬ U l)(nc:¬ U c):dB H' l c:=by
 obtain⟨n,ns,i,d,r,e1,e2,h3⟩:=S;exact⟨n,ns,i,d,r,fr.2.1 _ _ e1 nl,fr.2.1 _ _ e2 nc,h3⟩
theorem qK.Ti{H H':Hp}{l c w x:Addr}{U U' W:Addr->Prop}{pe M9:iS}{rows rows':cO}{pq:iS}{rq:cO}{aB dG:iT}{aI:iN}{nW nW':Nat}{bO UR:Row}(St:qK C CS CW CB H l c w x U W pe rows pq rq aB aI nW bO)(L':oG C CS CW CB U' H' x M9 dG aI nW' UR)(hl:M9.getLast?=some rows')(fr:Ew U U' H H'):qK C CS CW CB H' l c w x U' W M9 rows' pq rq dG aI nW' UR/\IU l U W U' W H H':=by
 refine⟨⟨St.src.fru fr (λz=>(St.du l z).2.1 rfl) (λz=>(St.du c z).2.2 rfl),L',hl,St.wo.fr (λa ob e z=>fr.2.1 _ _ e (λy=>(St.du a y).1 z)) fr.2.2,λa z=>?_,St.dw⟩,λa z=>z.elim (λz=>(fr.1 a z).elim .inl λy=>.inr (.inr y)) (λz=>.inr (.inl z)),λa ob e _ u _=>fr.2.1 a ob e u,fr.2.2⟩;rcases fr.1 a z with y|y
 ·exact St.du a y
 ·have n:=St.src.ne y;refine⟨λz=>?_,n.1.symm,n.2.symm⟩;obtain⟨ob,e⟩:=St.wo.al z;rw[y]at e;cases e
theorem qK.kept{H H':Hp}{l c w x:Addr}{U W W':Addr->Prop}{pe:iS}{rows:cO}{pq pq':iS}{rq rq':cO}{aB:iT}{aI:iN}{nW:Nat}{bO:Row}(St:qK C CS CW CB H l c w x U W pe rows pq rq aB aI nW bO)(wo:Wo W' H' w aI pq' rq')(dU:∀ a,U a->¬ W' a)(dW:∀ a,W' a->a≠l/\a≠c)(fr:∀ a ob,H a=some ob->¬ W' a->H' a=some ob)(tp:∀ a xs,H a=some (.tup xs)->H' a=some (.tup xs)):qK C CS CW CB H' l c w x U W' pe rows pq' rq' aB aI nW bO:=by
 refine⟨?_,St.GZ.fr (λa ob e z=>fr _ _ e (dU a z)) tp,St.lst,wo,λa z=>⟨dU a z,(St.du a z).2⟩,dW⟩;obtain⟨n,ns,i,d,r,e1,e2,h3⟩:=St.src;exact⟨n,ns,i,d,r,fr _ _ e1 (λz=>(dW l z).1 rfl),fr _ _ e2 (λz=>(dW c z).2 rfl),h3⟩
theorem qK.new{H:Hp}{l c w x a:Addr}{U W:Addr->Prop}{pe:iS}{rows:cO}{pq:iS}{rq:cO}{aB:iT}{aI:iN}{nW:Nat}{bO:Row}(St:qK C CS CW CB H l c w x U W pe rows pq rq aB aI nW bO)(h:H a=none):¬ U a/\¬ W a/\a≠l/\a≠c:=by
 have n:=St.src.ne h;refine⟨λz=>?_,λz=>?_,n.1.symm,n.2.symm⟩
 ·obtain⟨ob,e⟩:=St.GZ.al z;rw[h]at e;cases e
 ·obtain⟨ob,e⟩:=St.wo.al z;rw[h]at e;cases e
def own(rows:cO)(x:Int):List Int:=(rows[x.toNat]?).getD []
theorem wg{rows:cO}{s:Nat}(es:List Int)(h:s<rows.length):iZ rows s es=rows.set s es:=by
 unfold iZ;rw[List.set_eq_take_append_cons_drop,if_pos h,nC];rfl
theorem wj{k:Nat}:∀ {row:Row},(∀ p∈row,p.2<=p.1+(k:Nat))->(bu row).length<=k*row.length
 | [],_=>Nat.zero_le _
 | p::r,h=>by
  have ih:=wj (row:=r) λq hq=>h q (mE _ hq);have hp:=h p (List.mem_cons_self ..);have e:bu (p::r)=fN p++bu r:=by unfold bu;rw[je]
  rw[e,cP,lR,Nat.mul_add,Nat.mul_one];have:(fN p).length<=k:=by unfold fN;rw[gD];lia
  lia
theorem P4{n:Nat}{row:Row}(h:∀ p∈row,0<=p.1/\p.1<p.2/\p.2<=(n:Nat)){e:Int}(he:e∈bu row):0<=e/\e<(n:Nat):=by
 unfold bu at he;obtain⟨p,hp,hm⟩:=List.mem_flatMap.mp he;have b:=h p hp;have m:=yX.mp hm;lia
class inductive Xv
 | mk (r e:Addr) (s:Nat) (xs:List V) (_:vs=[.ref r,.int (s:Nat),.ref e]) (_:H r=some (.lst xs)) (_:s<xs.length) (_:xs.length<=1000) (_:∀ (q:Addr) (H':Hp),H' q=some (.lst (xs.set s (.ref e)))->aK H H'->H q=none->Q (.ref q) H')
theorem yp:aH ["_law_rows","_law_sheet","_law_entries","_law_found"] ["_law_rows","_law_sheet","_law_entries"] (aA uD):=fc
theorem Tj{n:Nat}{i:Nat}(h1:i<n):JU n ((i:Nat):Int)=some i:=by
 unfold JU;rw[if_pos ∅,Int.toNat_natCast,if_pos ∅]
theorem yq:‹(1,74,["_law_rows","_law_sheet","_law_entries"],Xv)›:=λD=>by
 refine fG D.WJ.F yp λdm A zn s0 H vs Q E hr h=>?_;obtain⟨r,e,s,xs,rfl,jP,hs,lx,k⟩:=h;exists _,(aj (aU (i:=3) yp.nd (cR cS rfl D.T.gu oM (aa (pv 0) ah))) (aj (mH (pv 2) (pD (pv 3) (pv 1) jy)) (au (aN (pv 3)))));refine⟨Y,r,Y,.inl (bI.of jP),λq hq=>?_⟩;refine⟨Y,Y,Y,q,P,s,V,af,Tj hs,Y,k q _ af (bS hq (ak hq _) (aG q _ _)) hq⟩
theorem Wo.swap{W:Addr->Prop}{H:Hp}{w rw vl q e:Addr}{aI:iN}{pq:iS}{rq:cO}{xs:List V}{s:Nat}{es:List Int}(wu:MF W H w ik rw ps vl aI pq rq)(hx:H rw=some (.lst xs))(hq:H q=some (.lst (xs.set s (.ref e))))(he:H e=some (.lst (es.map V.int)))(nq:¬ W q)(ne:¬ W e):MF (λa=>W a\/a=e\/a=q) H w ik rw ps vl aI pq rq/\Na (λa=>W a\/a=e\/a=q) ik ps H q (rq.set s es):=by
 have Yg:MF (λa=>W a\/a=e\/a=q) H w ik rw ps vl aI pq rq:=qK.UQ wu (λa z=>.inl z) (by
  rintro a (z|z|z)
  ·exact wu.al a z
  ·rw[z];exact⟨_,he⟩
  ·rw[z];exact⟨_,hq⟩)
 obtain⟨_,_,_,vs,hvs,al⟩:=id Yg.hr;rw[hx]at hvs;cases hvs;have ne':∀ {a b:Addr},W a->¬ W b->b≠a:=λwa nb z=>nb (by rw[z];exact wa);exists Yg,.inr (.inr rfl),ne' wu.wi nq,ne' wu.wp nq,_,hq
 have key:∀ {vs:List V} {rs:cO} (s:Nat),cu (UP (λa=>W a\/a=e\/a=q) ik ps H) vs rs->cu (UP (λa=>W a\/a=e\/a=q) ik ps H) (vs.set s (.ref e)) (rs.set s es):=by
  intro vs rs s z
  induction z generalizing s with
  | nil=>exact .nil
  | cons o t ih =>
   cases s with
   | zero=>exact .cons ⟨e,rfl,.inr (.inl rfl),ne' wu.wi ne,ne' wu.wp ne,he⟩ t
   | succ n=>exact .cons o (ih n)
 exact key s al
theorem mh:aH ["_law_row","_law_numbers","_law_start","_law_stop"] ["_law_row"] (aA rA):=fc
theorem wm:‹(1,75,["_law_row"],(J8 1000000))›:=λD=>by
 specialize fG D.Sb.F mh;obtain⟨r,row,rfl,⟨as,jP,hp⟩,Eu,dO,hrl,k⟩:=h;exists _,(aj (aU (i:=1) mh.nd (bM ah)) (aj (dN PassesOwn.never rfl (cF (pv 0)) (kY (n:=2) rfl (bT (b8 (i:=2) mh.nd) (bT (b8 (i:=3) mh.nd) gC))) (au (aT (dX qC PySem.F.slot_list_extend PySem.F.type_list_extend j0 (pv 1) (aa (cR (tT rfl) rfl D.T.gu oM (aa (cR ES rfl D.T.jc PyProof.Rows.boot_range (aa (pv 2) (aa (pv 3) ah))) ah)) ah))))) (au (aN (pv 1)))));refine⟨iG,λq hq=>?_⟩;have s0:aK H (aM H q (.lst [])):=ak hq _;refine⟨Y,r,rfl,⟨_,bI.of (s0 _ _ jP)⟩,dH (K:=K) (a:=r) (xs:=as.map V.ref) (λi σ H2=>∃ (u v:Option V),σ=[some (.ref r),some (.ref q),u,v]/\H2 q=some (.lst ((bu (row.take i)).map V.int))/\aK H H2) ⟨none,none,rfl,af,s0⟩ (by rintro i σ H2 _ ⟨_,_,_,_,s⟩;exact bI.of (s _ _ jP)) ?_ ?_⟩
 ·rintro i x σ H2 hi ⟨u,v,rfl,eL,s⟩;rw[fP]at hi;obtain⟨a,ea,rfl⟩:=Option.map_eq_some_iff.mp hi;obtain⟨⟨st,en⟩,ep,ha⟩:=hp.get ea;obtain⟨b1,b2,b3⟩:=Eu _ (pA ep);simp only at b1 b2 b3;have step:=HU ep
  have lz:(bu (row.take i)).length+(en-st).toNat<=1000000:=by
   have z:=AX row (i+1);rw[step,cP,fN,gD]at z;exact gR z dO
  exists a,Y,cY.of (s _ _ ha),rfl,P,rfl,Z;refine⟨Y,.inl ⟨rfl,_,bI.of eL⟩,Y,Y,P,rfl,λp hp=>⟨p,P,rfl,af,⟨Q,Q,Q,Q⟩,gM (aR ∅),λm hm=>?_⟩⟩;have s1:aK H2 (aM H2 p (.EA st en)):=ak hp _;have s2:=s1.trans (ak hm (.lst (BR st (en-st).toNat)));exists q,m,Z,s2 _ _ eL,af,?_
  ·rw[cz,zI,cz,gD];exact gM (aR ∅)
  ·refine⟨P,rfl,?_,bS hq (s.trans s2) (aG q _ _)⟩;rw[af,step,gy,zI];rfl
 ·rintro σ H2 ⟨u,v,rfl,eL,s⟩;refine⟨Y,k q H2 ?_ s hq⟩;rw[cz,hp.len,gQ]at eL;exact eL
class inductive DX(d:Nat)
 | mk (av:Addr->Prop) (r:Addr) (rows:cO) (x:Int) (sh:Int->List Int) (rk:Int->Nat) (_:vs=[.ref r,.int x]) (_:ic av H r rows) (_:rows.length<=1000) (_:gr rows) (_:0<=x) (_:x<rows.length) (_:m9 rows sh) (_:(∀ x:Int,0<=x->x<rows.length->(sh x).length<=10000)) (_:(∀ x y,jO rows x y->rk y<rk x)) (_:rk x<d) (_ :
 ∀ (o:Addr) (H':Hp),H' o=some (.lst ((sh x).map V.int))->aK H H'->H o=none->Q (.ref o) H')
theorem rW:aH ["_law_rows","_law_sheet","_law_numbers","_law_entry"] ["_law_rows","_law_sheet"] (aA uE):=fc
theorem Bj(D:Ds K mg aZ br C CS CW CB CT CD){n:Nat}(IV:bq P w K mg zt cM (n+1) (aZ 76) (br 76) ["_law_rows","_law_sheet"] (DX n)):bq P w K mg zt cM (n+2) (aZ 76) (br 76) ["_law_rows","_law_sheet"] (DX (n+1)):=by
 specialize fG D.Ft.F rW;obtain⟨av,r,rows,x,sh,rk,rfl,R,dO,qp,x0,x1,xX,Eu,yC,hd,k⟩:=h;obtain⟨es,eS⟩:∃ es,rows[x.toNat]?=some es:=⟨_,qM ∅⟩;obtain⟨yf,b,ye,A5,hb0,hrl⟩:=R.get eS
 have vR:pG yf x=some (.ref b):=by
  have z:=dc A5;rw[show ((x.toNat:Nat):Int)=x by lia]at z;exact z
 have shx:=xX x es x0 eS
 have part:∀ i,(aS sh (es.take i)).length<=10000:=λi=>by
  have z:=Eu x x0 x1
  have e:aS sh es=aS sh (es.take i)++aS sh (es.drop i):=by
   unfold aS;rw[← List.flatMap_append,List.take_append_drop]
  rw[shx,e,cP]at z;lia
 exists _,(aj (aU (i:=2) rW.nd (bM ah)) (aj (dN PassesOwn.never rfl (cF (aP bG (pv 0) (pv 1))) (b8 (i:=3) rW.nd) (au (bP (aV mJ (pv 3) ay (bh _)) (au (aT (dX qC PySem.F.slot_list_extend PySem.F.type_list_extend j0 (pv 2) (aa (aC D.Ft IV hr (aa (pv 0) (aa (bx cQ (gG eG ay) (pv 3)) ah))) ah)))) (au (aT (dX qC jX jY bU (pv 2) (aa (pv 3) ah))))))) (au (aN (pv 2)))));refine⟨iG,λq hq=>?_⟩;have s0:aK H (aM H q (.lst [])):=ak hq _;refine⟨Y,Y,r,K,V,bI.of (s0 _ _ ye),vR,b,rfl,⟨_,bI.of (s0 _ _ hb0)⟩,dH (K:=K) (a:=b) (xs:=es.map V.int) (λi σ H2=>∃ u:Option V,σ=[some (.ref r),some (.int x),some (.ref q),u]/\H2 q=some (.lst ((aS sh (es.take i)).map V.int))/\aK H H2) ⟨none,rfl,af,s0⟩ (by rintro i σ H2 _ ⟨_,_,_,s2⟩;exact bI.of (s2 _ _ hb0)) ?_ ?_⟩
 ·rintro i e σ H2 hi ⟨u,rfl,h2,s2⟩;rw[fP]at hi;obtain⟨e,ex,rfl⟩:=Option.map_eq_some_iff.mp hi
  have st:aS sh (es.take (i+1))=aS sh (es.take i)++aW sh e:=by
   rw[take_snoc ex];unfold aS;rw[List.flatMap_append];simp
  have pl:=part (i+1);rw[st,cP]at pl;refine⟨Y,Z,Y,cW (λc=>?_) (λc=>?_)⟩
  ·have c':e<0:=of_decide_eq_true c;have ee:aW sh e=sh (-1-e):=by unfold aW;rw[if_pos c']
   rw[ee]at st pl;have GY:jO rows x (-1-e):=⟨x0,es,eS,cy.mpr ⟨Q,by rw[show -1-(-1-e)=e by lia];exact pA ex⟩⟩;obtain⟨y0,y1⟩:=qp.Es GY;have rky:=yC _ _ GY;refine⟨Y,.inl ⟨rfl,_,bI.of h2⟩,Y,Y,Y,Z,av,r,rows,-1-e,sh,rk,rfl,R.same s2,dO,qp,y0,y1,xX,Eu,yC,Q,λo H3 h3 s3 ho=>?_⟩;refine⟨q,o,Z,s3 _ _ h2,h3,gM (aR (by rw[cz,cz];lia)),?_⟩;refine⟨Y,?_,bS hq (s2.trans s3) (aG q _ _)⟩;rw[af,st,gy]
  ·have c':¬ e<0:=λz=>c (decide_eq_true z);have ee:aW sh e=[e]:=by unfold aW;rw[if_neg c']
   rw[ee]at st pl;refine⟨Y,.inl ⟨rfl,_,bI.of h2⟩,Y,q,Z,h2,(by rw[cz];exact aR ∅),?_⟩;refine⟨Y,?_,bS hq s2 (aG q _ _)⟩;rw[af,st,gy];rfl
 ·rintro σ H2 ⟨u,rfl,h2,s2⟩;rw[cz,gQ,← shx]at h2;exact⟨Y,k q H2 h2 s2 hq⟩
theorem iz(D:Ds K mg aZ br C CS CW CB CT CD):∀ n:Nat,bq P w K mg zt cM (n+1) (aZ 76) (br 76) ["_law_rows","_law_sheet"] (DX n)
 | 0=>by
  have no:∀ vs H Q E,¬ DX 0 vs H Q E:=λvs H Q E h=>by
   obtain⟨_,_,_,_,_,_,_,_,_,_,_,_,_,_,_,h,_⟩:=h;exact Nat.not_lt_zero _ h
  exact⟨λvs H Q E h=>absurd h (no vs H Q E),λA zn s H args us vs Q E _ _ _ _ h=>absurd h (no vs H Q E)⟩
 | n+1=>Bj D (iz D n)
def Nc(rows:cO):Nat->Int->List Int
 | 0,_=>[]
 | k+1,x=>match rows[x.toNat]? with
  | some es=>aS (Nc rows k) es
  | none=>[]
theorem rX{f g:Int->List Int}{es:List Int}(h:∀ y∈dM es,f y=g y):aS f es=aS g es:=by
 unfold aS;rw[List.flatMap_def,List.flatMap_def];congr 1;refine List.map_congr_left λe he=>?_;unfold aW;by_cases c:e<0
 ·rw[if_pos c,if_pos c,h (-1-e) (cy.mpr ⟨Q,by rw[show -1-(-1-e)=e by lia];exact he⟩)]
 ·rw[if_neg c,if_neg c]
theorem Ay{rows:cO}(h:Dg rows):∃ sh,m9 rows sh:=by
 obtain⟨rk,hb,hd⟩:=h
 have key:∀ (k:Nat) (x:Int),0<=x->rk x<k->Nc rows k x=Nc rows (k+1) x:=by
  intro k
  induction k with
  | zero=>intro x _ h;lia
  | succ k ih =>
   intro x x0 hx
   cases e:rows[x.toNat]? with
   | none=>simp[Nc,e]
   | some es =>
    have e1:Nc rows (k+1) x=aS (Nc rows k) es:=by simp[Nc,e]
    have e2:Nc rows (k+1+1) x=aS (Nc rows (k+1)) es:=by
     show (match rows[x.toNat]? with|some es=>aS (Nc rows (k+1)) es|none=>[])=_;rw[e]
    rw[e1,e2];refine rX λy hy=>ih y (cy.mp hy).1 ?_;have:=hd x y ⟨x0,es,e,hy⟩;lia
 refine⟨Nc rows 41,λx es x0 he=>?_⟩;rw[key 41 x x0 (by have:=hb x;lia)];show (match rows[x.toNat]? with|some es=>aS (Nc rows 41) es|none=>[])=_;rw[he]
def Az(n:Nat)(L:List Int):Nat:=cnt n λi=>decide ((i:Int)∉L)
theorem MG{n:Nat}{L:List Int}{y:Int}(h0:0<=y)(h1:y<n)(hn:y∉L):Az n (L++[y])+1=Az n L:=by
 refine vF y.toNat n ∅ ?_ λi=>?_
 ·show decide (((y.toNat:Nat):Int)∉L)=true;rw[show ((y.toNat:Nat):Int)=y by lia];exact decide_eq_true hn
 ·show decide ((i:Int)∉L++[y])=(decide ((i:Int)∉L)&&decide (i≠y.toNat));rw[← Bool.decide_and];congr 1;rw[List.mem_append,List.mem_singleton];apply propext;constructor
  ·intro h;exact⟨λq=>h (.inl q),λq=>h (.inr ∅)⟩
  ·rintro⟨a,b⟩ (q|q)
   ·exact a q
   ·exact b ∅
theorem DY(a b:List Int):dM (a++b)=dM a++dM b:=by unfold dM;rw[List.filterMap_append]
structure Dfs(rows:cO)(H:Hp)(Rr Wt:Addr)(s:Int)(aa7:Int->Prop)(H2:Hp)(L ws:List Int):Prop where
 hR:H2 Rr=some (.lst (L.map V.int))
 hW:H2 Wt=some (.lst (ws.map V.int))
 sm:aK H H2
 rc:∀ x∈L,Reach (jO rows) s x
 wr:∀ x∈ws,(x=s\/x∈L)/\0<=x/\x<rows.length
 kl:L.length+Az rows.length L<=rows.length
 cl:∀ x,(x=s\/x∈L)->x∈ws\/aa7 x\/∀ y,jO rows x y->y∈L
class inductive MH
 | mk (av:Addr->Prop) (r:Addr) (rows:cO) (s:Int) (_:vs=[.ref r,.int s]) (_:ic av H r rows) (_:rows.length<=1000) (_:(∀ es∈rows,es.length<=100000)) (_:gr rows) (_:0<=s) (_:s<rows.length) (_ :
 ∀ (L:List Int) (o:Addr) (H':Hp),H' o=some (.lst (L.map V.int))->aK H H'->(∀ x,x∈L↔Reach (jO rows) s x)->Q (.ref o) H')
theorem iA:aH ["_law_rows","_law_sheet","_law_reached_here","_law_waiting","_law_here","_law_entry"] ["_law_rows","_law_sheet"] (aA oj):=fc
def muR(n:Nat)(L ws:List Int):Nat:=2*Az n L+ws.length
def US(rows:cO)(H:Hp)(r Rr Wt:Addr)(s:Int)(m:Nat)(σ:L2.St)(H2:Hp):Prop:=∃ (L ws:List Int) (u v:Option V),σ=[some (.ref r),some (.int s),some (.ref Rr),some (.ref Wt),u,v]/\Dfs rows H Rr Wt s (λ_=>False) H2 L ws/\ws.length+2*Az rows.length L<=2*rows.length+1/\m=muR rows.length L ws
theorem AA:‹(1,77,["_law_rows","_law_sheet"],MH)›:=λD=>by
 refine fG D.aae.F iA λdm A zn s0 H vs Q E hr h=>?_;obtain⟨av,r,rows,s,rfl,hRw,dO,hes,qp,h0,h1,k⟩:=h;have hu:=gT hr;exists _,(aj (aU (i:=2) iA.nd (bM ah)) (aj (aU (i:=3) iA.nd (bM (aa (pv 1) ah))) (aj (qV PassesOwn.never (aV EI (fX D.T.fj (pv 3)) ay (bh _)) (aj (aU (i:=4) iA.nd (NK qC PySem.F.slot_list_pop PySem.F.type_list_pop NP (pv 3))) (au (dN PassesOwn.never rfl (cF (aP bG (pv 0) (pv 4))) (b8 (i:=5) iA.nd) (au (bP (PW.pt (qR (aV mJ (pv 5) ay (bh _)) (nG (aV vq (bx cQ (gG eG ay) (pv 5)) (pv 2) rfl)))) (aj (aT (dX qC jX jY bU (pv 2) (aa (bx cQ (gG eG ay) (pv 5)) ah))) (au (aT (dX qC jX jY bU (pv 3) (aa (bx cQ (gG eG ay) (pv 5)) ah))))) bf)))))) (au (aN (pv 2))))));refine⟨iG,λRr hRr=>?_⟩;refine⟨Y,m6,λWt hWt=>?_⟩;have s1:aK H (aM H Rr (.lst [])):=ak hRr _;have s2:=s1.trans (ak hWt (.lst [.int s]))
 have Sj:H Wt=none:=by
  cases e:H Wt with
  | none=>rfl
  | some o=>exact absurd ((s1 _ _ e).symm.trans hWt) (by simp)
 have nRW:Rr≠Wt:=az af hWt;exists US rows H r Rr Wt s,⟨_,[],[s],none,none,rfl,⟨ak hWt _ _ _ af,af,s2,?_,?_,?_,?_⟩,?_,rfl⟩
 ·intro x hx;cases hx
 ·intro x hx;have:x=s:=by simpa using hx
  exact⟨.inl this,Q,Q⟩
 ·have:=zS rows.length (λi=>decide ((i:Int)∉([]:List Int)));show 0+cnt rows.length _<=_;lia
 ·rintro x (rfl|hx)
  ·exact .inl (by simp)
  ·cases hx
 ·have:=zS rows.length (λi=>decide ((i:Int)∉([]:List Int)));show 1+2*cnt rows.length _<=_;lia
 rintro m σ H2 ⟨L,ws,u,v,rfl,B,hml,rfl⟩;exists Y,Wt,Y,.inl (bI.of B.hW),Z,Y;rcases nB ws with rfl|⟨Yh,h,rfl⟩
 ·refine gh ⟨Y,k L Rr H2 B.hR B.sm λx=>⟨λhx=>B.rc x hx,λhx=>?_⟩⟩
  have zt:∀ x,(x=s\/x∈L)->∀ y,jO rows x y->y∈L:=λx hx=>by
   rcases B.cl x hx with z|z|z
   ·cases z
   ·exact z.elim
   ·exact z
  exact Reach.closed (S:=λy=>y∈L) (zt s (.inl rfl)) (λx y hx=>zt x (.inr hx) y) hx
 rw[kX]at B hml ⊢;refine cW (λ_=>?_) (λz=>absurd (decide_eq_true (by simp)) z);obtain⟨hR2,hW2,sm2,rc2,wr2,kl2,cl2⟩:=id B;obtain⟨hh,e0,e1⟩:=wr2 h (by simp);obtain⟨es,eS⟩:∃ es,rows[h.toNat]?=some es:=⟨_,qM ∅⟩;have WT:=hes es (pA eS);refine⟨fun σ' H'=>∃ m',m'<muR rows.length L (Yh++[h])/\US rows H r Rr Wt s m' σ' H',fun σ' H' z=>z,?_⟩;refine⟨Y,.inl ⟨rfl,_,bI.of hW2⟩,Wt,_,.int h,V,hW2,(by simp),?_⟩;have ee:((Yh++[h]).map V.int).dropLast=Yh.map V.int:=by simp
 rw[ee];have O0:aK H (aM H2 Wt (.lst (Yh.map V.int))):=bS Sj sm2 (aG Wt _ _);obtain⟨yf,b,ye,A5,hb0,hrl⟩:=hRw.get eS;have Uo:=O0 _ _ hb0;refine⟨Y,Y,r,K,V,bI.of (O0 _ _ ye),?_,b,rfl,⟨_,bI.of Uo⟩,dH (K:=K) (a:=b) (xs:=es.map V.int) (λi σ H5=>∃ (L2 Tn:List Int) (v:Option V),σ=[some (.ref r),some (.int s),some (.ref Rr),some (.ref Wt),some (.int h),v]/\ Dfs rows H Rr Wt s (λx=>x=h) H5 L2 Tn/\(∀ y∈dM (es.take i),y∈L2)/\(∀ y∈L,y∈L2)/\Tn.length+2*Az rows.length L2<=Yh.length+2*Az rows.length L) ?_ ?_ ?_ ?_⟩
 ·have z:=dc A5;rw[show ((h.toNat:Nat):Int)=h by lia]at z;exact z
 ·refine⟨L,Yh,Y,⟨(by rw[aJ nRW];exact hR2),af,O0,rc2,λx hx=>wr2 x (qE _ hx),kl2,λx hx=>?_⟩,(λy hy=>by simp[dM]at hy),λ_ q=>q,fH _⟩;rcases cl2 x hx with z|z|z
  ·rcases List.mem_append.mp z with q|q
   ·exact .inl q
   ·exact .inr (.inl (by simpa using q))
  ·exact z.elim
  ·exact .inr (.inr z)
 ·rintro i σ H5 _ ⟨_,_,_,_,B5,_⟩;exact bI.of (B5.sm _ _ hb0)
 ·rintro i x σ H5 hi ⟨L2,Tn,v,rfl,B5,CA,hsub,X6⟩;rw[fP]at hi;obtain⟨x,ex,rfl⟩:=Option.map_eq_some_iff.mp hi;have step:dM (es.take (i+1))=dM (es.take i)++dM [x]:=by rw[take_snoc ex,DY]
  refine⟨Y,Z,Y,cW (λc=>?_) (λc=>gh ?_)⟩
  ·have c':x<0:=of_decide_eq_true c;have wx:dM [x]=[-1-x]:=by simp[dM,c']
   have GY:jO rows h (-1-x):=⟨e0,es,eS,by
    rw[cy]
    exact⟨Q,by rw[show -1-(-1-x)=x by lia];exact pA ex⟩⟩
   obtain⟨y0,y1⟩:=qp.Es GY;exists Y,Y,Z,Y,Rr,Y,.inl (bI.of B5.hR),rfl,xj L2,Y;rw[Df];by_cases hm:-1-x∈L2
   ·rw[decide_eq_true hm];refine gh ?_;refine⟨L2,Tn,Y,B5,(λy hy=>?_),hsub,X6⟩;rw[step,wx]at hy;rcases List.mem_append.mp hy with q|q
    ·exact CA y q
    ·have:y=-1-x:=by simpa using q
     rw[this];exact hm
   ·rw[decide_eq_false hm];refine jA ?_;have kll:=B5.kl;have mp:=MG y0 y1 hm;refine⟨Y,.inl ⟨rfl,_,bI.of B5.hR⟩,Y,Y,Z,Rr,Z,B5.hR,(by rw[cz];exact aR ∅),?_⟩;have QD:(aM H5 Rr (.lst (L2.map V.int++[.int (-1-x)]))) Wt=some (.lst (Tn.map V.int)):=by rw[aJ nRW.symm];exact B5.hW
    refine⟨Y,.inl ⟨rfl,_,bI.of QD⟩,Y,Y,Z,Wt,Z,QD,(by rw[cz];rw[cP,qD]at hml;exact aR ∅),?_⟩;refine⟨L2++[-1-x],Tn++[-1-x],Y,⟨?_,?_,bS Sj (bS hRr B5.sm (aG Rr _ _)) (aG Wt _ _),?_,?_,?_,?_⟩,?_,λy q=>qE _ (hsub y q),?_⟩
    ·rw[aJ nRW,af,gy];rfl
    ·rw[af,gy];rfl
    ·intro y hy;rcases List.mem_append.mp hy with q|q
     ·exact B5.rc y q
     ·have:y=-1-x:=by simpa using q
      subst this;rcases hh with rfl|hh
      ·exact .one GY
      ·exact .step (B.rc h hh) GY
    ·intro y hy;rcases List.mem_append.mp hy with q|q
     ·obtain⟨q1,q2⟩:=B5.wr y q;exact⟨q1.imp id (qE _),q2⟩
     ·have:y=-1-x:=by simpa using q
      subst this;exact⟨.inr (by simp),y0,y1⟩
    ·rw[cP,qD];lia
    ·intro y hy;by_cases e:y=-1-x
     ·exact .inl (by rw[e];simp)
     ·have hy':y=s\/y∈L2:=hy.imp id λq=>by
       rcases List.mem_append.mp q with z|z
       ·exact z
       ·exact absurd (by simpa using z) e
      rcases B5.cl y hy' with q|q|q
      ·exact .inl (qE _ q)
      ·exact .inr (.inl q)
      ·exact .inr (.inr λz hz=>qE _ (q z hz))
    ·intro y hy;rw[step,wx]at hy;rcases List.mem_append.mp hy with q|q
     ·exact qE _ (CA y q)
     ·exact oN _ q
    ·rw[cP,qD];lia
  ·have c':¬ x<0:=λz=>c (decide_eq_true z);have wx:dM [x]=[]:=by simp[dM,c']
   exact⟨L2,Tn,Y,B5,(by rw[step,wx,gK];exact CA),hsub,X6⟩
 ·rintro σ H5 ⟨L2,Tn,v,rfl,B5,CA,hsub,X6⟩;rw[cz,gQ]at CA;refine⟨_,?_,L2,Tn,P,rfl,⟨B5.hR,B5.hW,B5.sm,B5.rc,B5.wr,B5.kl,λx hx=>?_⟩,?_,rfl⟩
  ·unfold muR;rw[cP,qD];lia
  ·rcases B5.cl x hx with q|rfl|q
   ·exact .inl q
   ·refine .inr (.inr λy hy=>CA y ?_);obtain⟨_,wz,J9,hy'⟩:=hy;rw[eS]at J9;cases J9;exact hy'
   ·exact .inr (.inr q)
  ·rw[cP,qD]at hml;lia
theorem qh(sh:Int->List Int)(es:List Int)(i:Nat):(aS sh (es.take i)).length<=(aS sh es).length:=iH (aW sh) es i
class inductive xM(d:Nat)
 | mk (av:Addr->Prop) (r:Addr) (rows:cO) (e:Int) (sh:Int->List Int) (rk:Int->Nat) (_:vs=[.ref r,.int e]) (_:ic av H r rows) (_:rows.length<=1000) (_:gr rows) (_:m9 rows sh) (_:(∀ x:Int,0<=x->x<rows.length->(sh x).length<=10000)) (_:(∀ x y,jO rows x y->rk y<rk x)) (_:(e<0->-1-e<rows.length/\rk (-1-e)<d)) (_ :
 ∀ (o:Addr) (H':Hp),H' o=some (.lst ((aW sh e).map V.int))->aK H H'->H o=none->Q (.ref o) H')
theorem Bk:aH ["_law_rows","_law_entry"] ["_law_rows","_law_entry"] (aA pV):=fc
theorem t6(D:Ds K mg aZ br C CS CW CB CT CD){d:Nat}:bq P w K mg zt cM (d+2) (aZ 78) (br 78) ["_law_rows","_law_entry"] (xM d):=by
 specialize fG D.WK.F Bk;obtain⟨av,r,rows,e,sh,rk,rfl,R,dO,qp,xX,Eu,yC,hd,k⟩:=h;exists _,(aj (bP (aV mJ (pv 1) ay (bh _)) (au (aN (aC D.Ft (iz D d) hr (aa (pv 0) (aa (bx cQ (gG eG ay) (pv 1)) ah))))) bf) (au (aN (bM (aa (pv 1) ah)))));refine⟨Y,Z,Y,cW (λc=>?_) (λc=>?_)⟩
 ·have c':e<0:=of_decide_eq_true c;obtain⟨d1,d2⟩:=hd c';refine⟨Y,Y,Y,Z,av,r,rows,-1-e,sh,rk,rfl,R,dO,qp,Q,d1,xX,Eu,yC,d2,λo H' h s ho=>k o H' ?_ s ho⟩;unfold aW;rw[if_pos c'];exact h
 ·have c':¬ e<0:=λz=>c (decide_eq_true z);refine⟨Y,m6,λo ho=>k o _ ?_ (ak ho _) ho⟩;unfold aW;rw[if_neg c',af];rfl
theorem DZ(sh:Int->List Int)(p:Int):∀ (es:List Int) (f:Int),(aE sh p f es).length<=es.length+(aS sh es).length
 | [],_=>by simp[aE]
 | e::r,f=>by
  rw[aE,bQ,cP,cP,lR];have a:=DZ sh p r (f+(aW sh e).length)
  have b:(if f+(aW sh e).length<=p then [e] else if p<=f then [] else (aW sh e).take (p-f).toNat).length<=1+(aW sh e).length:=by
   split
   ·simp
   ·split
    ·simp
    ·rw[gB];lia
  lia
theorem D0(sh:Int->List Int)(p:Int):∀ (es:List Int) (f:Int),(bE sh p f es).length<=es.length+(aS sh es).length
 | [],_=>by simp[bE]
 | e::r,f=>by
  rw[bE,bQ,cP,cP,lR];have a:=D0 sh p r (f+(aW sh e).length)
  have b:(if f+(aW sh e).length<=p then [] else if p<=f then [e] else (aW sh e).drop (p-f).toNat).length<=1+(aW sh e).length:=by
   split
   ·simp
   ·split
    ·simp
    ·rw[qO];lia
  lia
class inductive IW(d:Nat)
 | mk (av:Addr->Prop) (r n:Addr) (rows:cO) (s p:Int) (new:List Int) (sh:Int->List Int) (rk:Int->Nat) (_:vs=[.ref r,.int s,.int p,.ref n]) (_:ic av H r rows) (_:rows.length<=1000) (_:(∀ es∈rows,es.length<=25000)) (_:gr rows) (_:m9 rows sh) (_:(∀ x:Int,0<=x->x<rows.length->(sh x).length<=10000)) (_:(∀ x y,jO rows x y->rk y<rk x)) (_:0<=s) (_:s<rows.length) (_:rk s<=d) (_:H n=some (.lst (new.map V.int))) (_:new.length<=25000) (_ :
 ∀ (es:List Int) (o:Addr) (H':Hp),rows[s.toNat]?=some es->H' o=some (.lst ((fE sh p es new).map V.int))->(fE sh p es new).length<=100000->aK H H'->H o=none->Q (.ref o) H')
theorem iB:aH ["_law_rows","_law_sheet","_law_place","_law_new","_law_ahead","_law_behind","_law_first","_law_entry","_law_pieces_here","_law_last"] ["_law_rows","_law_sheet","_law_place","_law_new"] (aA wQ):=fc
theorem IX(D:Ds K mg aZ br C CS CW CB CT CD){d:Nat}:bq P w K mg zt cM (d+3) (aZ 79) (br 79) ["_law_rows","_law_sheet","_law_place","_law_new"] (IW d):=by
 have qj:bq P w K mg zt cM (d+2) _ _ zl7 (xM d):=t6 D;refine fG D.OW.F iB λdm A zn s0 H vs Q E hr h=>?_;obtain⟨av,r,n,rows,s,p,new,sh,rk,rfl,R,dO,hes,qp,xX,Eu,yC,h0,h1,hd,hn,nl,k⟩:=h;obtain⟨es,eS⟩:∃ es,rows[s.toNat]?=some es:=⟨_,qM ∅⟩;have esl:=hes es (pA eS);have shs:=xX s es h0 eS;have shl:=Eu s h0 h1;rw[shs]at shl;obtain⟨yf,b,ye,A5,hb0,hrl⟩:=R.get eS
 have vR:pG yf s=some (.ref b):=by
  have z:=dc A5;rw[show ((s.toNat:Nat):Int)=s by lia]at z;exact z
 exists _,(aj (bP (aV dR (fX D.T.fj (pv 3)) ay (bh _)) (au (aN (cR cS rfl D.T.gu oM (aa (aP bG (pv 0) (pv 1)) ah)))) bf) (aj (aU (i:=4) iB.nd (bM ah)) (aj (aU (i:=5) iB.nd (bM ah)) (aj (aU (i:=6) iB.nd ay) (aj (dN PassesOwn.never rfl (cF (aP bG (pv 0) (pv 1))) (b8 (i:=7) iB.nd) (aj (aU (i:=8) iB.nd (aC D.WK qj hr (aa (pv 0) (aa (pv 7) ah)))) (aj (aU (i:=9) iB.nd (bx dD (pv 6) (fX D.T.fj (pv 8)))) (aj (bP (aV gn (pv 9) (pv 2) (bh _)) (au (aT (dX qC jX jY bU (pv 4) (aa (pv 7) ah)))) (au (bP (aV gn (pv 2) (pv 6) (bh _)) (au (aT (dX qC jX jY bU (pv 5) (aa (pv 7) ah)))) (aj (aT (dX qC PySem.F.slot_list_extend PySem.F.type_list_extend j0 (pv 4) (aa (iV lV (pv 8) nH (i7 (bx cQ (pv 2) (pv 6)))) ah))) (au (aT (dX qC PySem.F.slot_list_extend PySem.F.type_list_extend j0 (pv 5) (aa (iV lV (pv 8) (i7 (bx cQ (pv 2) (pv 6))) nH) ah)))))))) (au (aU (i:=6) iB.nd (pv 9))))))) (au (aN (bx jh (bx jh (pv 4) (pv 3)) (pv 5)))))))));refine⟨Y,n,Y,.inl (bI.of hn),rfl,Y,cW (λc=>?_) (λc=>?_)⟩
 ·have c':new=[]:=by
   have z:V.int ((new.map V.int).length:Int)=V.int 0:=of_decide_eq_true c;have z2:=V.int.inj z;rw[cz]at z2;exact List.eq_nil_of_length_eq_zero ∅
  refine⟨Y,Y,r,K,V,bI.of ye,vR,b,Y,.inl (bI.of hb0),λo ho=>k es o _ eS ?_ ?_ (ak ho _) ho⟩
  ·rw[af];unfold fE;rw[if_pos c']
  ·unfold fE;rw[if_pos c'];lia
 have c':¬ new=[]:=λz=>c (by rw[z];rfl);refine⟨iG,λA hA=>⟨iG,λB hB=>?_⟩⟩;have sA:aK H (aM H A (.lst [])):=ak hA _;have sB:aK _ (aM (aM H A (.lst [])) B (.lst [])):=ak hB _;have s1:=sA.trans sB;have AQ:A≠B:=az af hB;have M4:=aY sA hB;refine⟨Y,Y,r,K,V,bI.of (s1 _ _ ye),vR,b,rfl,⟨_,bI.of (s1 _ _ hb0)⟩,dH (K:=K) (a:=b) (xs:=es.map V.int) (λi σ H2=>∃ u1 u2 u3:Option V,σ=[some (.ref r),some (.int s),some (.int p),some (.ref n),some (.ref A),some (.ref B),some (.int (0+((aS sh (es.take i)).length:Int))),u1,u2,u3]/\H2 A=some (.lst ((aE sh p 0 (es.take i)).map V.int))/\H2 B=some (.lst ((bE sh p 0 (es.take i)).map V.int))/\aK H H2) ⟨none,none,none,rfl,sB _ _ af,af,s1⟩ (by rintro i σ H2 _ ⟨_,_,_,_,_,_,s2⟩;exact bI.of (s2 _ _ hb0)) ?_ ?_⟩
 ·rintro i x σ H2 hi ⟨u1,u2,u3,rfl,P5,hB2,s2⟩;rw[fP]at hi;obtain⟨e,ex,rfl⟩:=Option.map_eq_some_iff.mp hi;have st:=take_snoc ex
  have eA:aE sh p 0 (es.take (i+1))=aE sh p 0 (es.take i)++(if 0+((aS sh (es.take i)).length:Int)+(aW sh e).length<=p then [e] else if p<=0+((aS sh (es.take i)).length:Int) then [] else (aW sh e).take (p-(0+((aS sh (es.take i)).length:Int))).toNat):=by
   rw[st,xu,aE,aE,gK]
  have eB:bE sh p 0 (es.take (i+1))=bE sh p 0 (es.take i)++(if 0+((aS sh (es.take i)).length:Int)+(aW sh e).length<=p then [] else if p<=0+((aS sh (es.take i)).length:Int) then [e] else (aW sh e).drop (p-(0+((aS sh (es.take i)).length:Int))).toNat):=by
   rw[st,xx,bE,bE,gK]
  have eF:(0+((aS sh (es.take (i+1))).length:Int))=0+((aS sh (es.take i)).length:Int)+(aW sh e).length:=by
   rw[st,jI,bQ,cP,cP];simp[aS]
  have lA:=DZ sh p (es.take (i+1)) 0;have lB:=D0 sh p (es.take (i+1)) 0;have lA0:=DZ sh p (es.take i) 0;have lB0:=D0 sh p (es.take i) 0;have l1:=qh sh es (i+1);have l0:=qh sh es i;have t1:(es.take (i+1)).length<=es.length:=by rw[gB];lia
  have t0:(es.take i).length<=es.length:=by rw[gB];lia
  refine⟨Y,Y,av,r,rows,e,sh,rk,rfl,R.same s2,dO,qp,xX,Eu,yC,λae9=>?_,λo H3 h3 s3 ho=>?_⟩
  ·have nx:jO rows s (-1-e):=⟨h0,es,eS,cy.mpr ⟨Q,by rw[show -1-(-1-e)=e by lia];exact pA ex⟩⟩;have:=yC _ _ nx;exact⟨(qp.Es nx).2,Q⟩
  have G0:=s3 _ _ P5;have To:=s3 _ _ hB2;exists Y,Y,o,Y,.inl (bI.of h3),Z;rw[cz];refine⟨Y,Y,Z,Y,cW (λc1=>?_) (λc1=>?_)⟩
  ·have UT:0+((aS sh (es.take i)).length:Int)+((aW sh e).length:Int)<=p:=of_decide_eq_true c1;rw[if_pos UT]at eA eB;refine⟨Y,.inl ⟨rfl,_,bI.of G0⟩,Y,A,Z,G0,aR (by rw[cz];lia),?_⟩;refine⟨Y,some (.int e),some (.ref o),some (.int (0+((aS sh (es.take i)).length:Int)+((aW sh e).length:Int))),?_,?_,?_,bS hA (s2.trans s3) (aG A _ _)⟩
   ·rw[eF];rfl
   ·rw[af,eA,gy];rfl
   ·rw[aJ AQ.symm,eB,gK];exact To
  ·have UT:¬ 0+((aS sh (es.take i)).length:Int)+((aW sh e).length:Int)<=p:=λz=>c1 (decide_eq_true z);rw[if_neg UT]at eA eB;refine⟨Y,Y,Z,Y,cW (λc2=>?_) (λc2=>?_)⟩
   ·have Mq:p<=0+((aS sh (es.take i)).length:Int):=of_decide_eq_true c2;rw[if_pos Mq]at eA eB;refine⟨Y,.inl ⟨rfl,_,bI.of To⟩,Y,B,Z,To,aR (by rw[cz];lia),?_⟩;refine⟨Y,some (.int e),some (.ref o),some (.int (0+((aS sh (es.take i)).length:Int)+((aW sh e).length:Int))),?_,?_,?_,bS M4 (s2.trans s3) (aG B _ _)⟩
    ·rw[eF];rfl
    ·rw[aJ AQ,eA,gK];exact G0
    ·rw[af,eB,gy];rfl
   ·have Mq:¬ p<=0+((aS sh (es.take i)).length:Int):=λz=>c2 (decide_eq_true z);rw[if_neg Mq]at eA eB;rw[eA,cP]at lA;rw[eB,cP]at lB;refine⟨Y,.inl ⟨rfl,_,bI.of G0⟩,Y,Y,Y,Z,Y,o,Y,bI.of h3,λq1 LO=>?_⟩;have n1:aK H3 (aM H3 q1 (.lst (kC ((aW sh e).map V.int) none (some (p-(0+((aS sh (es.take i)).length:Int))))))):=ak LO _;have e1:kC ((aW sh e).map V.int) none (some (p-(0+((aS sh (es.take i)).length:Int))))=((aW sh e).take (p-(0+((aS sh (es.take i)).length:Int))).toNat).map V.int:=by rw[uU _ ∅,List.map_take]
    refine⟨A,q1,Z,n1 _ _ G0,af,gM (aR (by rw[e1,cz,cz];lia)),?_⟩;have k4:cB A H3 (aM (aM H3 q1 (.lst (kC ((aW sh e).map V.int) none (some (p-(0+((aS sh (es.take i)).length:Int))))))) A (.lst ((aE sh p 0 (es.take i)).map V.int++kC ((aW sh e).map V.int) none (some (p-(0+((aS sh (es.take i)).length:Int))))))):=cB.trans (aK.keep n1) (aG A _ _);have no:o≠A:=(az P5 ho).symm;have nqA:q1≠A:=(az G0 LO).symm;have hB4:=k4 _ _ To AQ.symm;refine⟨Y,.inl ⟨rfl,_,bI.of hB4⟩,Y,Y,Y,Z,Y,o,Y,bI.of (k4 _ _ h3 no),λq2 eL=>?_⟩;have e2:kC ((aW sh e).map V.int) (some (p-(0+((aS sh (es.take i)).length:Int)))) none=((aW sh e).drop (p-(0+((aS sh (es.take i)).length:Int))).toNat).map V.int:=by rw[xB _ ∅,List.map_drop]
    refine⟨B,q2,Z,ak eL _ _ _ hB4,af,gM (aR (by rw[e2,cz,cz];lia)),?_⟩;exists Y,some (.int e),some (.ref o),some (.int (0+((aS sh (es.take i)).length:Int)+((aW sh e).length:Int))),?_,?_,?_
    ·rw[eF];rfl
    ·rw[aJ AQ,ak eL _ _ _ af,eA,gy,e1]
    ·rw[af,eB,gy,e2]
    ·exact bS M4 ((bS hA (s2.trans s3) k4).trans (ak eL _)) (aG B _ _)
 ·rintro σ H2 ⟨u1,u2,u3,rfl,P5,hB2,s2⟩;rw[cz,gQ]at P5 hB2;have lA:=DZ sh p es 0;have lB:=D0 sh p es 0;refine⟨Y,Y,A,n,Z,P5,s2 _ _ hn,gM (aR (by rw[cz,cz];lia)),λc1 RG=>?_⟩;have n1:aK H2 (aM H2 c1 (.lst ((aE sh p 0 es).map V.int++new.map V.int))):=ak RG _;refine⟨Y,c1,B,Z,af,n1 _ _ hB2,gM (aR (by rw[cP,cz,cz,cz];lia)),λc2 Xa=>?_⟩;refine k es c2 _ eS ?_ ?_ (s2.trans (n1.trans (ak Xa _))) (aY (s2.trans n1) Xa)
  ·rw[af];unfold fE;rw[if_neg c',gy,gy]
  ·unfold fE;rw[if_neg c',cP,cP];lia
def QI(sh:Int->List Int)(a b f e:Int):List Int:=if a=b then [e] else Kw sh a b f e
def QJ(sh:Int->List Int)(a b f e:Int):List Int:=if a=b then [] else M6 sh a b f e
theorem Gh(sh:Int->List Int)(a b:Int)(es:List Int)(e:Int):bR sh a b (es++[e])=bR sh a b es++QI sh a b (0+((aS sh es).length:Int)) e:=by
 unfold bR QI;split
 ·rfl
 ·rw[xy,kE,kE,gK]
theorem Gi(sh:Int->List Int)(a b:Int)(es:List Int)(e:Int):ig sh a b (es++[e])=ig sh a b es++QJ sh a b (0+((aS sh es).length:Int)) e:=by
 unfold ig QJ;split
 ·rfl
 ·rw[xA,tE,tE,gK]
theorem Tp(sh:Int->List Int)(a b f e:Int):(QI sh a b f e).length<=1+2*(aW sh e).length:=by
 unfold QI Kw;split
 ·simp
 ·split
  ·simp
  ·split
   ·simp
   ·rw[cP,gB,qO];lia
theorem Tq(sh:Int->List Int)(a b f e:Int):(QJ sh a b f e).length<=1+2*(aW sh e).length:=by
 unfold QJ M6;split
 ·simp
 ·split
  ·simp
  ·split
   ·simp
   ·rw[qO,gB];lia
theorem P6(sh:Int->List Int)(a b:Int):∀ (es:List Int) (f:Int),(kE sh a b f es).length<=es.length+2*(aS sh es).length
 | [],_=>by simp[kE]
 | e::r,f=>by
  rw[kE,bQ,cP,cP,lR];have x:=P6 sh a b r (f+(aW sh e).length)
  have y:(Kw sh a b f e).length<=1+2*(aW sh e).length:=by
   unfold Kw;split
   ·simp
   ·split
    ·simp
    ·rw[cP,gB,qO];lia
  lia
theorem P7(sh:Int->List Int)(a b:Int):∀ (es:List Int) (f:Int),(tE sh a b f es).length<=es.length+2*(aS sh es).length
 | [],_=>by simp[tE]
 | e::r,f=>by
  rw[tE,bQ,cP,cP,lR];have x:=P7 sh a b r (f+(aW sh e).length)
  have y:(M6 sh a b f e).length<=1+2*(aW sh e).length:=by
   unfold M6;split
   ·simp
   ·split
    ·simp
    ·rw[qO,gB];lia
  lia
theorem uY(sh:Int->List Int)(a b:Int)(es:List Int):(bR sh a b es).length<=es.length+2*(aS sh es).length:=by
 unfold bR;split
 ·lia
 ·exact P6 sh a b es 0
theorem AB(sh:Int->List Int)(a b:Int)(es:List Int):(ig sh a b es).length<=es.length+2*(aS sh es).length:=by
 unfold ig;split
 ·simp
 ·exact P7 sh a b es 0
class inductive P8(d:Nat)
 | mk (av:Addr->Prop) (r:Addr) (rows:cO) (s a b:Int) (sh:Int->List Int) (rk:Int->Nat) (_:vs=[.ref r,.int s,.int a,.int b]) (_:ic av H r rows) (_:rows.length<=1000) (_:(∀ es∈rows,es.length<=1000)) (_:gr rows) (_:m9 rows sh) (_:(∀ x:Int,0<=x->x<rows.length->(sh x).length<=10000)) (_:(∀ x y,jO rows x y->rk y<rk x)) (_:0<=s) (_:s<rows.length) (_:rk s<=d) (_:a<=b) (_ :
 ∀ (es:List Int) (t L M:Addr) (H':Hp),rows[s.toNat]?=some es->H' t=some (.tup [.ref L,.ref M])->H' L=some (.lst ((bR sh a b es).map V.int))->H' M=some (.lst ((ig sh a b es).map V.int))->aK H H'->H L=none->H M=none->L≠M->Q (.ref t) H')
theorem gj:aH ["_law_rows","_law_sheet","_law_start","_law_stop","_law_kept","_law_taken","_law_first","_law_entry","_law_pieces_here","_law_last","_law_low","_law_high"] ["_law_rows","_law_sheet","_law_start","_law_stop"] (aA wR):=fc
theorem IY(D:Ds K mg aZ br C CS CW CB CT CD){d:Nat}:bq P w K mg zt cM (d+3) (aZ 80) (br 80) ["_law_rows","_law_sheet","_law_start","_law_stop"] (P8 d):=by
 have qj:bq P w K mg zt cM (d+2) _ _ zl7 (xM d):=t6 D;refine fG D.WL.F gj λdm A zn s0 H vs Q E hr h=>?_;obtain⟨av,r,rows,s,p,q,sh,rk,rfl,R,dO,hes,qp,xX,Eu,yC,h0,h1,hd,hpq,k⟩:=h;obtain⟨es,eS⟩:∃ es,rows[s.toNat]?=some es:=⟨_,qM ∅⟩;have esl:=hes es (pA eS);have shs:=xX s es h0 eS;have shl:=Eu s h0 h1;rw[shs]at shl;obtain⟨yf,b,ye,A5,hb0,hrl⟩:=R.get eS
 have vR:pG yf s=some (.ref b):=by
  have z:=dc A5;rw[show ((s.toNat:Nat):Int)=s by lia]at z;exact z
 exists _,(aj (aU (i:=4) gj.nd (bM ah)) (aj (aU (i:=5) gj.nd (bM ah)) (aj (aU (i:=6) gj.nd ay) (aj (dN PassesOwn.never rfl (cF (aP bG (pv 0) (pv 1))) (b8 (i:=7) gj.nd) (aj (aU (i:=8) gj.nd (aC D.WK qj hr (aa (pv 0) (aa (pv 7) ah)))) (aj (aU (i:=9) gj.nd (bx dD (pv 6) (fX D.T.fj (pv 8)))) (aj (aU (i:=10) gj.nd (b9 (mj rfl) rfl D.T.zV PyProof.Rows.boot_max (aa ay (aa (bx cQ (pv 2) (pv 6)) ah)))) (aj (aU (i:=11) gj.nd (bx cQ (b9 (oQ rfl) rfl D.T.Fo PyProof.Rows.boot_min (aa (pv 9) (aa (pv 3) ah))) (pv 6))) (aj (bP (PW.pt (JI (aV dR (pv 2) (pv 3) (bh _)) (JI (aV gn (pv 9) (pv 2) (bh _)) (G3 (aV gn (pv 3) (pv 6) (bh _)))))) (au (aT (dX qC jX jY bU (pv 4) (aa (pv 7) ah)))) (au (bP (PW.pt (qR (aV gn (pv 2) (pv 6) (bh _)) (nG (aV gn (pv 9) (pv 3) (bh _))))) (au (aT (dX qC jX jY bU (pv 5) (aa (pv 7) ah)))) (aj (aT (dX qC PySem.F.slot_list_extend PySem.F.type_list_extend j0 (pv 4) (aa (bx jh (iV lV (pv 8) nH (i7 (pv 10))) (iV lV (pv 8) (i7 (pv 11)) nH)) ah))) (au (aT (dX qC PySem.F.slot_list_extend PySem.F.type_list_extend j0 (pv 5) (aa (iV lV (pv 8) (i7 (pv 10)) (i7 (pv 11))) ah)))))))) (au (aU (i:=6) gj.nd (pv 9))))))))) (au (aN (cJ (aa (pv 4) (aa (pv 5) ah)))))))));refine⟨iG,λA hA=>⟨iG,λB hB=>?_⟩⟩;have sA:aK H (aM H A (.lst [])):=ak hA _;have sB:aK _ (aM (aM H A (.lst [])) B (.lst [])):=ak hB _;have s1:=sA.trans sB;have AQ:A≠B:=az af hB;have M4:=aY sA hB
 have z0:bR sh p q []=[]/\ig sh p q []=[]:=by
  unfold bR ig
  constructor <;> split <;> rfl
 refine⟨Y,Y,r,K,V,bI.of (s1 _ _ ye),vR,b,rfl,⟨_,bI.of (s1 _ _ hb0)⟩,dH (K:=K) (a:=b) (xs:=es.map V.int) (λi σ H2=>∃ u1 u2 u3 u4 u5:Option V,σ=[some (.ref r),some (.int s),some (.int p),some (.int q),some (.ref A),some (.ref B),some (.int (0+((aS sh (es.take i)).length:Int))),u1,u2,u3,u4,u5]/\H2 A=some (.lst ((bR sh p q (es.take i)).map V.int))/\H2 B=some (.lst ((ig sh p q (es.take i)).map V.int))/\aK H H2) ⟨none,none,none,none,none,rfl,(by rw[List.take_zero,z0.1];exact sB _ _ af),(by rw[List.take_zero,z0.2];exact af),s1⟩ (by rintro i σ H2 _ ⟨_,_,_,_,_,_,_,_,s2⟩;exact bI.of (s2 _ _ hb0)) ?_ ?_⟩
 ·rintro i x σ H2 hi ⟨u1,u2,u3,u4,u5,rfl,P5,hB2,s2⟩;rw[fP]at hi;obtain⟨e,ex,rfl⟩:=Option.map_eq_some_iff.mp hi;have st:=take_snoc ex;have eA:=Gh sh p q (es.take i) e;have eB:=Gi sh p q (es.take i) e;rw[← st]at eA eB
  have eF:(0+((aS sh (es.take (i+1))).length:Int))=0+((aS sh (es.take i)).length:Int)+(aW sh e).length:=by
   rw[st,jI,bQ,cP,cP];simp[aS]
  have lA0:=uY sh p q (es.take i);have lB0:=AB sh p q (es.take i);have l1:=qh sh es (i+1);have l0:=qh sh es i
  have le:(aW sh e).length<=(aS sh (es.take (i+1))).length:=by
   rw[st,jI,bQ,cP,cP];lia
  have lkk:=Tp sh p q (0+((aS sh (es.take i)).length:Int)) e;have ltt:=Tq sh p q (0+((aS sh (es.take i)).length:Int)) e;have t0:(es.take i).length<=es.length:=by rw[gB];lia
  generalize hf:0+((aS sh (es.take i)).length:Int)=fi at *;refine⟨Y,Y,av,r,rows,e,sh,rk,rfl,R.same s2,dO,qp,xX,Eu,yC,λae9=>?_,λo H3 h3 s3 ho=>?_⟩
  ·have nx:jO rows s (-1-e):=⟨h0,es,eS,cy.mpr ⟨Q,by rw[show -1-(-1-e)=e by lia];exact pA ex⟩⟩;have:=yC _ _ nx;exact⟨(qp.Es nx).2,Q⟩
  have G0:=s3 _ _ P5;have To:=s3 _ _ hB2;exists Y,Y,o,Y,.inl (bI.of h3),Z;rw[cz];exists Y,Y,Z,P,rfl;exists Y,Y,P,rfl,Y,Z
  have lo0:(if p-fi > 0 then p-fi else 0).toNat=(p-fi).toNat/\0<=(if p-fi > 0 then p-fi else 0):=by
   split <;> lia
  have Ae:(p=q\/(fi+((aW sh e).length:Int))<=p\/q<=fi)->(aM H3 A (.lst ((bR sh p q (es.take i)).map V.int++[.int e]))) A=some (.lst ((bR sh p q (es.take (i+1))).map V.int))/\(aM H3 A (.lst ((bR sh p q (es.take i)).map V.int++[.int e]))) B=some (.lst ((ig sh p q (es.take (i+1))).map V.int)):=λc=>by
   have e1:QI sh p q fi e=[e]:=by
    unfold QI Kw;rcases c with c|c
    ·rw[if_pos c]
    ·rw[if_pos c];split <;> rfl
   have e2:QJ sh p q fi e=[]:=by
    unfold QJ M6;rcases c with c|c
    ·rw[if_pos c]
    ·rw[if_pos c];split <;> rfl
   rw[af,aJ AQ.symm,eA,eB,e1,e2,gK,gy];exact⟨rfl,To⟩
  have stf:∀ y:Option V,[some (V.ref r),some (.int s),some (.int p),some (.int q),some (.ref A),some (.ref B),some (.int (fi+((aW sh e).length:Int))),some (.int e),some (.ref o),some (.int (fi+((aW sh e).length:Int))),some (.int (if p-fi > 0 then p-fi else 0)),y]=[some (.ref r),some (.int s),some (.int p),some (.int q),some (.ref A),some (.ref B),some (.int (0+((aS sh (es.take (i+1))).length:Int))),some (.int e),some (.ref o),some (.int (fi+((aW sh e).length:Int))),some (.int (if p-fi > 0 then p-fi else 0)),y]:=λy=>by rw[eF]
  have keepR:∀ c:(p=q\/(fi+((aW sh e).length:Int))<=p\/q<=fi),∃ u1 u2 u3 u4 u5:Option V,[some (V.ref r),some (.int s),some (.int p),some (.int q),some (.ref A),some (.ref B),some (.int (fi+((aW sh e).length:Int))),some (.int e),some (.ref o),some (.int (fi+((aW sh e).length:Int))),some (.int (if p-fi > 0 then p-fi else 0)),some (.int ((if q<(fi+((aW sh e).length:Int)) then q else (fi+((aW sh e).length:Int)))-fi))]=[some (.ref r),some (.int s),some (.int p),some (.int q),some (.ref A),some (.ref B),some (.int (0+((aS sh (es.take (i+1))).length:Int))),u1,u2,u3,u4,u5]/\(aM H3 A (.lst ((bR sh p q (es.take i)).map V.int++[.int e]))) A=some (.lst ((bR sh p q (es.take (i+1))).map V.int))/\(aM H3 A (.lst ((bR sh p q (es.take i)).map V.int++[.int e]))) B=some (.lst ((ig sh p q (es.take (i+1))).map V.int))/\aK H (aM H3 A (.lst ((bR sh p q (es.take i)).map V.int++[.int e]))):=λc =>
   ⟨K,P,stf _,(Ae c).1,(Ae c).2,bS hA (s2.trans s3) (aG A _ _)⟩
  have mA:((bR sh p q (es.take i)).map V.int).length<sizeLine:=aR (by rw[cz];lia);refine⟨Y,Y,rfl,Y,cW (λc1=>jA ?_) (λc1=>?_)⟩
  ·exact⟨Y,.inl ⟨rfl,_,bI.of G0⟩,Y,A,Z,G0,mA,Y,keepR (.inl (V.int.inj (of_decide_eq_true c1)))⟩
  have UT:¬ p=q:=λz=>c1 (by rw[z];exact decide_eq_true rfl);refine⟨Y,Y,Z,Y,cW (λc2=>jA ?_) (λc2=>?_)⟩
  ·exact⟨Y,.inl ⟨rfl,_,bI.of G0⟩,Y,A,Z,G0,mA,Y,keepR (.inr (.inl (of_decide_eq_true c2)))⟩
  have Mq:¬ (fi+((aW sh e).length:Int))<=p:=λz=>c2 (decide_eq_true z);refine⟨Y,Y,Z,Y,cW (λc3=>?_) (λc3=>?_)⟩
  ·exact⟨Y,.inl ⟨rfl,_,bI.of G0⟩,Y,A,Z,G0,mA,Y,keepR (.inr (.inr (of_decide_eq_true c3)))⟩
  have c3':¬ q<=fi:=λz=>c3 (decide_eq_true z);have n1:¬ ((fi+((aW sh e).length:Int))<=p\/q<=fi):=λz=>z.elim Mq c3'
  have hh:((if q<(fi+((aW sh e).length:Int)) then q else (fi+((aW sh e).length:Int)))-fi).toNat=min (aW sh e).length (q-fi).toNat/\0<=(if q<(fi+((aW sh e).length:Int)) then q else (fi+((aW sh e).length:Int)))-fi:=by
   split <;> lia
  have pq:p<q:=by lia
  have vh:¬ (p<=fi/\(fi+((aW sh e).length:Int))<=q)->QI sh p q fi e=(aW sh e).take (if p-fi > 0 then p-fi else 0).toNat++(aW sh e).drop ((if q<(fi+((aW sh e).length:Int)) then q else (fi+((aW sh e).length:Int)))-fi).toNat/\QJ sh p q fi e=((aW sh e).take ((if q<(fi+((aW sh e).length:Int)) then q else (fi+((aW sh e).length:Int)))-fi).toNat).drop (if p-fi > 0 then p-fi else 0).toNat:=λc4=>by
   unfold QI QJ Kw M6;rw[if_neg UT,if_neg UT,if_neg n1,if_neg n1,if_neg c4,if_neg c4,lo0.1,hh.1];rcases Nat.le_total (q-fi).toNat (aW sh e).length with z|z
   ·rw[Nat.min_eq_right z];exact⟨V⟩
   ·rw[Nat.min_eq_left z,vg z,vg (fH _),uc z,uc (fH _)];exact⟨V⟩
  refine⟨Y,Y,Z,Y,OA (λz=>⟨Y,Y,Z,Y,z⟩) (λc6=>?_) (λc6=>?_)⟩
  ·have e1:QI sh p q fi e=[]:=by unfold QI Kw;rw[if_neg UT,if_neg n1,if_pos c6]
   have e2:QJ sh p q fi e=[e]:=by unfold QJ M6;rw[if_neg UT,if_neg n1,if_pos c6]
   refine⟨Y,.inl ⟨rfl,_,bI.of To⟩,Y,B,Z,To,aR (by rw[cz];lia),Y,K,P,stf _,?_,?_,bS M4 (s2.trans s3) (aG B _ _)⟩
   ·rw[aJ AQ,eA,e1,gK];exact G0
   ·rw[af,eB,e2,gy];rfl
  ·obtain⟨r1,r2⟩:=vh c6;rw[r1,cP]at lkk;rw[r2]at ltt;refine⟨Y,.inl ⟨rfl,_,bI.of G0⟩,Y,Y,Y,o,Y,bI.of h3,λq1 LO=>?_⟩;rw[uU _ lo0.2,← List.map_take];have n4:aK H3 (aM H3 q1 (.lst (((aW sh e).take (if p-fi > 0 then p-fi else 0).toNat).map V.int))):=ak LO _;refine⟨Y,Y,Y,o,Y,bI.of (n4 _ _ h3),λq2 eL=>?_⟩;rw[xB _ hh.2,← List.map_drop];have n5:aK _ (aM (aM H3 q1 (.lst (((aW sh e).take (if p-fi > 0 then p-fi else 0).toNat).map V.int))) q2 (.lst (((aW sh e).drop ((if q<(fi+((aW sh e).length:Int)) then q else (fi+((aW sh e).length:Int)))-fi).toNat).map V.int))):=ak eL _;refine⟨q1,q2,Z,n5 _ _ af,af,(by rw[cz,cz];exact gM (aR ∅)),λq3 vL=>?_⟩;have n6:aK _ (aM (aM (aM H3 q1 (.lst (((aW sh e).take (if p-fi > 0 then p-fi else 0).toNat).map V.int))) q2 (.lst (((aW sh e).drop ((if q<(fi+((aW sh e).length:Int)) then q else (fi+((aW sh e).length:Int)))-fi).toNat).map V.int))) q3 (.lst (((aW sh e).take (if p-fi > 0 then p-fi else 0).toNat).map V.int++((aW sh e).drop ((if q<(fi+((aW sh e).length:Int)) then q else (fi+((aW sh e).length:Int)))-fi).toNat).map V.int))):=ak vL _;have n46:=n4.trans (n5.trans n6);have h63:(aM (aM (aM H3 q1 (.lst (((aW sh e).take (if p-fi > 0 then p-fi else 0).toNat).map V.int))) q2 (.lst (((aW sh e).drop ((if q<(fi+((aW sh e).length:Int)) then q else (fi+((aW sh e).length:Int)))-fi).toNat).map V.int))) q3 (.lst (((aW sh e).take (if p-fi > 0 then p-fi else 0).toNat).map V.int++((aW sh e).drop ((if q<(fi+((aW sh e).length:Int)) then q else (fi+((aW sh e).length:Int)))-fi).toNat).map V.int))) q3=some (.lst (((aW sh e).take (if p-fi > 0 then p-fi else 0).toNat).map V.int++((aW sh e).drop ((if q<(fi+((aW sh e).length:Int)) then q else (fi+((aW sh e).length:Int)))-fi).toNat).map V.int)):=af;generalize aM (aM (aM H3 q1 (.lst (((aW sh e).take (if p-fi > 0 then p-fi else 0).toNat).map V.int))) q2 (.lst (((aW sh e).drop ((if q<(fi+((aW sh e).length:Int)) then q else (fi+((aW sh e).length:Int)))-fi).toNat).map V.int))) q3 (.lst (((aW sh e).take (if p-fi > 0 then p-fi else 0).toNat).map V.int++((aW sh e).drop ((if q<(fi+((aW sh e).length:Int)) then q else (fi+((aW sh e).length:Int)))-fi).toNat).map V.int))=H6 at n46 h63;refine⟨A,q3,Z,n46 _ _ G0,h63,(by rw[cP,cz,cz,cz];exact gM (aR ∅)),?_⟩;have k7:cB A H6 (aM H6 A (.lst ((bR sh p q (es.take i)).map V.int++(((aW sh e).take (if p-fi > 0 then p-fi else 0).toNat).map V.int++((aW sh e).drop ((if q<(fi+((aW sh e).length:Int)) then q else (fi+((aW sh e).length:Int)))-fi).toNat).map V.int)))):=aG A _ _;have hA7:(aM H6 A (.lst ((bR sh p q (es.take i)).map V.int++(((aW sh e).take (if p-fi > 0 then p-fi else 0).toNat).map V.int++((aW sh e).drop ((if q<(fi+((aW sh e).length:Int)) then q else (fi+((aW sh e).length:Int)))-fi).toNat).map V.int)))) A=some (.lst ((bR sh p q (es.take (i+1))).map V.int)):=by rw[af,eA,r1,gy,gy]
   have no:o≠A:=(az P5 ho).symm;have h37:=k7 _ _ (n46 _ _ h3) no;have hB7:=k7 _ _ (n46 _ _ To) AQ.symm;have sm7:=bS hA (s2.trans (s3.trans n46)) k7;generalize aM H6 A (.lst ((bR sh p q (es.take i)).map V.int++(((aW sh e).take (if p-fi > 0 then p-fi else 0).toNat).map V.int++((aW sh e).drop ((if q<(fi+((aW sh e).length:Int)) then q else (fi+((aW sh e).length:Int)))-fi).toNat).map V.int)))=H7 at k7 hA7 h37 hB7 sm7;refine⟨Y,.inl ⟨rfl,_,bI.of hB7⟩,Y,Y,Y,Y,Y,o,Y,bI.of h37,λq4 Fy=>?_⟩;rw[F5 _ lo0.2 hh.2,← List.map_take,← List.map_drop];refine⟨B,q4,Z,ak Fy _ _ _ hB7,af,(by rw[cz,cz];exact gM (aR ∅)),?_⟩;refine⟨Y,K,P,stf _,?_,?_,bS M4 (sm7.trans (ak Fy _)) (aG B _ _)⟩
   ·rw[aJ AQ];exact ak Fy _ _ _ hA7
   ·rw[af,eB,r2,gy]
 ·rintro σ H2 ⟨u1,u2,u3,u4,u5,rfl,P5,hB2,s2⟩;rw[cz,gQ]at P5 hB2;refine⟨Y,Y,lF,λt ht=>k es t A B _ eS af (ak ht _ _ _ P5) (ak ht _ _ _ hB2) (s2.trans (ak ht _)) hA M4 AQ⟩
class inductive sV(d:Nat)
 | mk (av:Addr->Prop) (r:Addr) (rows:cO) (x:Int) (f:Int->Int) (rk:Int->Nat) (_:vs=[.ref r,.int x]) (_:ic av H r rows) (_:rows.length<=1000) (_:gr rows) (_:0<=x) (_:x<rows.length) (_:Weighs rows f) (_:(∀ x y,jO rows x y->rk y<rk x)) (_:rk x<d) (_:Q (.int (f x)) H)
theorem iC:aH ["_law_rows","_law_sheet","_law_total","_law_entry"] ["_law_rows","_law_sheet"] (aA om):=fc
theorem xN(D:Ds K mg aZ br C CS CW CB CT CD){n:Nat}(Bm:bq P w K mg zt cM (n+1) (aZ 81) (br 81) ["_law_rows","_law_sheet"] (sV n)):bq P w K mg zt cM (n+2) (aZ 81) (br 81) ["_law_rows","_law_sheet"] (sV (n+1)):=by
 specialize fG D.WM.F iC;obtain⟨av,r,rows,x,f,rk,rfl,R,dO,qp,x0,x1,hf,yC,hd,k⟩:=h;obtain⟨es,eS⟩:∃ es,rows[x.toNat]?=some es:=⟨_,qM ∅⟩;obtain⟨yf,b,ye,A5,hb0,hrl⟩:=R.get eS
 have vR:pG yf x=some (.ref b):=by
  have z:=dc A5;rw[show ((x.toNat:Nat):Int)=x by lia]at z;exact z
 exists _,(aj (aU (i:=2) iC.nd ay) (aj (dN PassesOwn.never rfl (cF (aP bG (pv 0) (pv 1))) (b8 (i:=3) iC.nd) (aj (aU (i:=2) iC.nd (bx dD (pv 2) ay)) (au (bP (aV mJ (pv 3) ay (bh _)) (au (aU (i:=2) iC.nd (bx dD (pv 2) (aC D.WM Bm hr (aa (pv 0) (aa (bx cQ (gG eG ay) (pv 3)) ah)))))) bf)))) (au (aN (pv 2)))));refine⟨Y,Y,r,K,V,bI.of ye,vR,b,rfl,⟨_,bI.of hb0⟩,dH (K:=K) (a:=b) (xs:=es.map V.int) (λi σ H2=>∃ u:Option V,σ=[some (.ref r),some (.int x),some (.int (kO f (es.take i))),u]/\H2=H) ⟨none,V⟩ (λi σ H2 _ ⟨P,e⟩=>by rw[e];exact bI.of hb0) ?_ ?_⟩
 ·rintro i e σ H2 hi ⟨u,rfl,rfl⟩;rw[fP]at hi;obtain⟨e,ex,rfl⟩:=Option.map_eq_some_iff.mp hi
  have st:kO f (es.take (i+1))=kO f (es.take i)+(if e<0 then 1+f (-1-e) else 1):=by
   rw[take_snoc ex];unfold kO;rw[gy,List.sum_append];simp
  exists Y,Z;refine⟨Y,Z,Y,cW (λc=>?_) (λc=>?_)⟩
  ·have c':e<0:=of_decide_eq_true c;have GY:jO rows x (-1-e):=⟨x0,es,eS,cy.mpr ⟨Q,by rw[show -1-(-1-e)=e by lia];exact pA ex⟩⟩;obtain⟨y0,y1⟩:=qp.Es GY;have rky:=yC _ _ GY;exists Y,Y,Y,Y,Z,av,r,rows,-1-e,f,rk,rfl,R,dO,qp,y0,y1,hf,yC,Q,Z;refine⟨some (.int e),?_,rfl⟩;rw[st,if_pos c'];show [some (V.ref r),some (V.int x),some (V.int (kO f (es.take i)+1+f (-1-e))),some (V.int e)]=_;rw[show kO f (es.take i)+1+f (-1-e)=kO f (es.take i)+(1+f (-1-e)) by lia]
  ·have c':¬ e<0:=λz=>c (decide_eq_true z);refine⟨some (.int e),?_,rfl⟩;rw[st,if_neg c'];rfl
 ·rintro σ H2 ⟨u,rfl,rfl⟩;rw[cz,gQ,← hf x es x0 eS];exact⟨Y,k⟩
theorem rY(D:Ds K mg aZ br C CS CW CB CT CD):∀ n:Nat,bq P w K mg zt cM (n+1) (aZ 81) (br 81) ["_law_rows","_law_sheet"] (sV n)
 | 0=>by
  have no:∀ vs H Q E,¬ sV 0 vs H Q E:=λvs H Q E h=>by
   obtain⟨_,_,_,_,_,_,_,_,_,_,_,_,_,_,h,_⟩:=h;exact Nat.not_lt_zero _ h
  exact⟨λvs H Q E h=>absurd h (no vs H Q E),λA zn s H args us vs Q E _ _ _ _ h=>absurd h (no vs H Q E)⟩
 | n+1=>xN D (rY D n)
theorem oJ:aH ["_law_numbers","_law_row","_law_number"] ["_law_numbers"] (aA pW):=fc
theorem t7:‹(1,82,["_law_numbers"],Rl)›:=λD=>by
 specialize fG D.WN.F oJ;obtain⟨r,ns,rfl,jP,dO,k⟩:=h;exists _,(aj (aU (i:=1) oJ.nd (bM ah)) (aj (dN PassesOwn.never rfl (cF (pv 0)) (b8 (i:=2) oJ.nd) (au (bP (PW.pt (qR (aV EI (fX D.T.fj (pv 1)) ay (bh _)) (nG (aV dR (aP aX (aP bG (pv 1) (gG eG ay)) ay) (pv 2) (bh _))))) (au (mH (cJ (aa (aP aX (aP bG (pv 1) (gG eG ay)) ay) (aa (bx dD (pv 2) ay) ah))) (pD (pv 1) (gG eG ay) jy))) (au (aT (dX qC jX jY bU (pv 1) (aa (cJ (aa (pv 2) (aa (bx dD (pv 2) ay) ah))) ah))))))) (au (aN (pv 1)))));refine⟨iG,λq hq=>?_⟩;have s0:aK H (aM H q (.lst [])):=ak hq _;refine⟨Y,r,rfl,⟨_,bI.of (s0 _ _ jP)⟩,dH (K:=K) (a:=r) (xs:=ns.map V.int) (λi σ H2=>∃ (bs:List Addr) (u:Option V),σ=[some (.ref r),some (.ref q),u]/\H2 q=some (.lst (bs.map V.ref))/\bg H2 bs ((ns.take i).foldl (λt n=>iQ t n (n+1)) [])/\aK H H2) ⟨[],none,rfl,af,.nil,s0⟩ (by rintro i σ H2 _ ⟨_,_,_,_,_,s⟩;exact bI.of (s _ _ jP)) ?_ ?_⟩
 ·rintro i x σ H2 hi ⟨bs,u,rfl,eL,hb,s⟩;rw[fP]at hi;obtain⟨m,em,rfl⟩:=Option.map_eq_some_iff.mp hi;have step:=foldl_take_succ (λt n=>iQ t n (n+1)) ns [] i m em
  have bl:bs.length<sizeLine:=by
   have z:=hb.len;have z2:=zK (ns.take i) [];rw[gB]at z2;exact aR (by simp only[qQ]at z2;lia)
  exists Y,q,Y,.inl (bI.of eL),Z,Y;rcases nB ((ns.take i).foldl (λt n=>iQ t n (n+1)) []) with hn|⟨rw0,q0,hn⟩
  ·rw[hn]at hb step;have hbs:bs=[]:=List.eq_nil_of_length_eq_zero hb.len;subst hbs;refine gh (gh ?_);refine⟨Y,.inl ⟨rfl,_,bI.of eL⟩,Y,Y,Z,lF,λt ht=>⟨q,Z,ak ht _ _ _ eL,(by show 0<sizeLine;decide),?_⟩⟩;obtain⟨g1,g2,g3⟩:=zJ (st:=m) (en:=m+1) hq s eL hb ht;refine⟨[]++[t],Y,g1,?_,g3⟩;rw[step,kF];exact g2
  ·rw[kX]at hn;rw[hn]at hb step;obtain⟨cs,a0,rfl,hc,MZ⟩:=hb.split;have vL:H2 q=some (.lst (cs.map V.ref++[.ref a0])):=by rw[eL,gy];rfl
   refine cW (λ_=>?_) (λc=>absurd (decide_eq_true (by rw[cz,cP,qD];lia)) c);refine⟨Y,Y,q,K,V,bI.of vL,fT _ _,a0,K,V,cY.of MZ,Lp,Y,rfl,Y,cW (λc2=>?_) (λc2=>?_)⟩
   ·have e2:q0.2=m:=V.int.inj (of_decide_eq_true c2);refine⟨Y,Y,q,K,V,bI.of vL,fT _ _,a0,K,V,cY.of MZ,Oc,Y,Z,lF,λt ht=>?_⟩;exists Y,Y,q,P,cs.length,V,ak ht _ _ _ vL,HV cs a0;obtain⟨g1,g2,g3⟩:=turned (st:=q0.1) (en:=m+1) hq s vL hc ht;refine⟨cs++[t],Y,g1,?_,g3⟩;rw[step,kG _ e2];exact g2
   ·have e2:¬ q0.2=m:=λz=>c2 (decide_eq_true (congrArg V.int z));refine⟨Y,.inl ⟨rfl,_,bI.of eL⟩,Y,Y,Z,lF,λt ht=>⟨q,Z,ak ht _ _ _ eL,(by rw[cz];exact bl),?_⟩⟩;obtain⟨g1,g2,g3⟩:=zJ (st:=m) (en:=m+1) hq s eL hb ht;refine⟨cs++[a0]++[t],Y,g1,?_,g3⟩;rw[step,kH _ e2];exact g2
 ·rintro σ H2 ⟨bs,u,rfl,eL,hb,s⟩;refine⟨Y,k q H2 ⟨bs,eL,?_⟩ s hq⟩;rw[cz,gQ]at hb;exact hb
theorem Reach.trans{E:Int->Int->Prop}{a b c:Int}(h:Reach E a b)(g:Reach E b c):Reach E a c:=by
 induction g with
 | one e=>exact .step h e
 | step _ e ih=>exact .step ih e
theorem Gj{p q:Nat->Bool}(h:∀ i,p i=true->q i=true):∀ n,cnt n p<=cnt n q
 | 0=>fH _
 | n+1=>by
  rw[vE,vE];have ih:=Gj h n;by_cases c:p n=true
  ·rw[if_pos c,if_pos (h n c)];lia
  ·rw[if_neg c];lia
open Classical in
theorem Xw{rows:cO}(sd:gr rows)(l:rows.length<=40)(h:∀ x,¬ Reach (jO rows) x x):Dg rows:=by
 refine⟨λx=>cnt rows.length λi=>decide (Reach (jO rows) x (i:Int)),λx=>gR (zS _ _) l,λx y n=>?_⟩;obtain⟨y0,y1⟩:=sd.Es n;have yy:((y.toNat:Nat):Int)=y:=by lia
 have a:=Gj (p:=λi=>decide (Reach (jO rows) y (i:Int))) (q:=λi=>decide (Reach (jO rows) x (i:Int))&&decide (i≠y.toNat)) (λi hi=>by
  have r:=of_decide_eq_true hi;rw[Bool.and_eq_true];refine⟨decide_eq_true ((Reach.one n).trans r),decide_eq_true λz=>?_⟩;rw[z,yy]at r
  exact h _ r) rows.length
 have b:=vF y.toNat rows.length (p:=λi=>decide (Reach (jO rows) x (i:Int))) (q:=λi=>decide (Reach (jO rows) x (i:Int))&&decide (i≠y.toNat)) ∅ (decide_eq_true (by rw[yy];exact .one n)) (λ_=>rfl);show cnt _ _<cnt _ _;lia
theorem KH{rows:cO}{s:Nat}{es:List Int}{x y:Int}(h:jO (rows.set s es) x y)(ne:x.toNat≠s):jO rows x y:=by
 obtain⟨x0,wz,e,hy⟩:=h;rw[List.getElem?_set_ne (λz=>ne z.symm)]at e;exact⟨x0,wz,e,hy⟩
theorem P9{rows:cO}{s:Int}{es:List Int}(s0:0<=s)(R:Dg rows)(n:¬ Reach (jO (rows.set s.toNat es)) s s):∀ x,¬ Reach (jO (rows.set s.toNat es)) x x:=by
 have key:∀ {a b:Int},Reach (jO (rows.set s.toNat es)) a b->Reach (jO rows) a b\/((a=s\/Reach (jO (rows.set s.toNat es)) a s)/\Reach (jO (rows.set s.toNat es)) s b):=by
  intro a b r
  induction r with
  | one e =>
   by_cases c:a.toNat=s.toNat
   ·have q:a=s:=by have:=e.1;lia
    rw[q]at e;exact .inr ⟨.inl q,.one e⟩
   ·exact .inl (.one (KH e c))
  | @step y z r e ih =>
   by_cases c:y.toNat=s.toNat
   ·have q:y=s:=by have:=e.1;lia
    rw[q]at r e;exact .inr ⟨.inr r,.one e⟩
   ·rcases ih with i|i
    ·exact .inl (.step i (KH e c))
    ·exact .inr ⟨i.1,.step i.2 e⟩
 intro x r;rcases key r with z|⟨z|z,y⟩
 ·exact R.irr z
 ·rw[z]at y;exact n y
 ·exact n (y.trans z)
theorem MJ(f:Int->Int)(e:Int)(r:List Int):kO f (e::r)=(if e<0 then 1+f (-1-e) else 1)+kO f r:=by unfold kO;rw[jv,List.sum_cons]
theorem KJ{sh:Int->List Int}{f:Int->Int}:∀ {es:List Int},(∀ y∈dM es,((sh y).length:Int)<=f y)->(es.length:Int)<=kO f es/\((aS sh es).length:Int)<=kO f es
 | [],_=>by simp[kO,aS]
 | e::r,h=>by
  have ih:=KJ (es:=r) λy hy=>h y (cy.mpr ⟨(cy.mp hy).1,mE _ (cy.mp hy).2⟩);rw[MJ,bQ,cP,lR];unfold aW;by_cases c:e<0
  ·have z:=h (-1-e) (cy.mpr ⟨Q,by rw[show -1-(-1-e)=e by lia];simp⟩);rw[if_pos c,if_pos c];lia
  ·rw[if_neg c,if_neg c,qD];lia
theorem Gk{rows:cO}{sh:Int->List Int}{f:Int->Int}(sd:gr rows)(R:Dg rows)(hs:m9 rows sh)(hw:Weighs rows f):∀ x:Int,0<=x->∀ es,rows[x.toNat]?=some es->(es.length:Int)<=f x/\((sh x).length:Int)<=f x:=by
 obtain⟨rk,_,hd⟩:=R
 have key:∀ (k:Nat) (x:Int),rk x<k->0<=x->∀ es,rows[x.toNat]?=some es->(es.length:Int)<=f x/\((sh x).length:Int)<=f x:=by
  intro k
  induction k with
  | zero=>intro x h;lia
  | succ k ih =>
   intro x hx x0 es he;rw[hw x es x0 he,hs x es x0 he];refine KJ λy hy=>?_;have n:jO rows x y:=⟨x0,es,he,hy⟩;obtain⟨y0,y1⟩:=sd.Es n;have:=hd _ _ n;exact (ih y ∅ y0 _ (qM ∅)).2
 exact λx=>key (rk x+1) x (Nat.lt_succ_self _)
theorem Qa{rows:cO}{sh:Int->List Int}{N:Int->Prop}(qp:gr rows)(yC:Dg rows)(xX:m9 rows sh)(hN:∀ es∈rows,∀ e∈es,0<=e->N e):∀ x:Int,0<=x->x<rows.length->∀ y∈sh x,N y:=by
 obtain⟨rk,hb,hd⟩:=yC
 have key:∀ (k:Nat) (x:Int),rk x<k->0<=x->x<rows.length->∀ y∈sh x,N y:=by
  intro k
  induction k with
  | zero=>intro x h;lia
  | succ k ih =>
   intro x hx x0 x1 y hy;have he:rows[x.toNat]?=some rows[x.toNat]:=qM ∅;rw[xX x _ x0 he]at hy;unfold aS at hy;obtain⟨e,hm,hy⟩:=List.mem_flatMap.mp hy;unfold aW at hy;by_cases c:e<0
   ·rw[if_pos c]at hy;have nx:jO rows x (-1-e):=⟨x0,_,he,cy.mpr ⟨Q,by rw[show -1-(-1-e)=e by lia];exact hm⟩⟩;obtain⟨a,b⟩:=qp.Es nx;have:=hd _ _ nx;exact ih _ ∅ a b y hy
   ·rw[if_neg c]at hy;rw[List.mem_singleton.mp hy];exact hN _ (pA he) e hm ∅
 exact λx=>key (rk x+1) x (Nat.lt_succ_self _)
def t9(n m:Nat)(e:Int):Prop:=(0<=e/\e<(n:Nat))\/(e<0/\-1-e<(m:Nat))
structure Good(n:Nat)(rows:cO):Prop where
 en:∀ es∈rows,∀ e∈es,t9 n rows.length e
 rk:Dg rows
 ln:rows.length<=40
 wt:∃ f,Weighs rows f/\∀ x:Int,0<=x->x<rows.length->f x<=200
theorem D3{n:Nat}{rows:cO}(h:∀ es∈rows,∀ e∈es,t9 n rows.length e):gr rows:=λes he y hy=>by
 obtain⟨y0,hm⟩:=cy.mp hy;rcases h es he _ hm with z|z
 ·lia
 ·have:=z.2;lia
structure Gd(n:Nat)(rows:cO)(sh:Int->List Int):Prop where
 sn:Seen rows sh
 in_:∀ x:Int,0<=x->x<rows.length->∀ a∈sh x,0<=a/\a<(n:Nat)
 sl:∀ x:Int,0<=x->x<rows.length->(sh x).length<=200
 es:∀ es∈rows,es.length<=200
 en:∀ es∈rows,∀ e∈es,t9 n rows.length e
 ln:rows.length<=40
theorem Good.es{n:Nat}{rows:cO}(h:Good n rows):∀ es∈rows,es.length<=200:=by
 obtain⟨en,rk,ln,f,hw,hm⟩:=h;obtain⟨sh,hs⟩:=Ay rk;intro es he;obtain⟨i,hi⟩:=List.mem_iff_getElem?.mp he;have il:=(List.getElem?_eq_some_iff.mp hi).1;have a:=Gk (D3 en) rk hs hw (i:Int) ∅ es (by rw[Int.toNat_natCast];exact hi);have:=hm (i:Int) ∅ ∅;lia
theorem Good.UU{n:Nat}{rows:cO}(h:Good n rows):∃ sh,Gd n rows sh:=by
 have hes:=h.es;obtain⟨en,rk,ln,f,hw,hm⟩:=h;obtain⟨sh,hs⟩:=Ay rk;have sd:=D3 en
 have sl:∀ x:Int,0<=x->x<rows.length->(sh x).length<=200:=λx x0 x1=>by
  have a:=Gk sd rk hs hw x x0 _ (qM ∅);have:=hm x x0 x1;lia
 refine⟨sh,⟨λes he=>by have:=hes es he;lia,sd,rk,hs,λx x0 x1=>by have:=sl x x0 x1;lia⟩,Qa sd rk hs (λes he e hm e0=>?_),sl,hes,en,ln⟩;rcases en es he e hm with z|z
 ·exact z
 ·lia
theorem Good.bears{n:Nat}{rows:cO}(h:Good n rows):∃ f,nQ rows f:=by
 have hes:=h.es;obtain⟨en,rk,ln,f,hw,hm⟩:=h;exact⟨f,Q,λes he=>by have:=hes es he;lia,D3 en,rk,hw,hm⟩
theorem Qc{n:Nat}{rows:cO}{s:Nat}{es:List Int}(h:∀ es∈rows,∀ e∈es,t9 n rows.length e)(g:∀ e∈es,t9 n rows.length e):∀ wz∈rows.set s es,∀ e∈wz,t9 n (rows.set s es).length e:=by
 intro wz hm;rw[List.length_set];rcases List.mem_or_eq_of_mem_set hm with z|z
 ·exact h wz z
 ·rw[z];exact g
theorem Gm{sh:Int->List Int}{N:Int->Prop}(hs:∀ e,N e->∀ x∈aW sh e,N x)(p:Int):∀ (es:List Int) (f:Int),(∀ e∈es,N e)->∀ x,x∈aE sh p f es\/x∈bE sh p f es->N x
 | [],_,_=>λx hx=>by rcases hx with z | z <;> cases z
 | e::r,f,h=>by
  intro x hx;rw[aE,bE,List.mem_append,List.mem_append]at hx;have he:=hs e (h e (by simp));have ih:=Gm hs p r (f+(aW sh e).length) (λy hy=>h y (mE _ hy)) x;rcases hx with (z|z)|(z|z)
  ·split at z
   ·rw[List.mem_singleton.mp z];exact h e (by simp)
   ·split at z
    ·cases z
    ·exact he x (List.mem_of_mem_take z)
  ·exact ih (.inl z)
  ·split at z
   ·cases z
   ·split at z
    ·rw[List.mem_singleton.mp z];exact h e (by simp)
    ·exact he x (List.mem_of_mem_drop z)
  ·exact ih (.inr z)
theorem Qd{sh:Int->List Int}{N:Int->Prop}(hs:∀ e,N e->∀ x∈aW sh e,N x)(a b:Int):∀ (es:List Int) (f:Int),(∀ e∈es,N e)->∀ x,x∈kE sh a b f es\/x∈tE sh a b f es->N x
 | [],_,_=>λx hx=>by rcases hx with z | z <;> cases z
 | e::r,f,h=>by
  intro x hx;rw[kE,tE,List.mem_append,List.mem_append]at hx;have he:=hs e (h e (by simp));have ih:=Qd hs a b r (f+(aW sh e).length) (λy hy=>h y (mE _ hy)) x;unfold Kw M6 at hx;rcases hx with (z|z)|(z|z)
  ·split at z
   ·rw[List.mem_singleton.mp z];exact h e (by simp)
   ·split at z
    ·cases z
    ·rcases List.mem_append.mp z with z|z
     ·exact he x (List.mem_of_mem_take z)
     ·exact he x (List.mem_of_mem_drop z)
  ·exact ih (.inl z)
  ·split at z
   ·cases z
   ·split at z
    ·rw[List.mem_singleton.mp z];exact h e (by simp)
    ·exact he x (List.mem_of_mem_take (List.mem_of_mem_drop z))
  ·exact ih (.inr z)
theorem xO{sh:Int->List Int}{N:Int->Prop}(hs:∀ e,N e->∀ x∈aW sh e,N x){p:Int}{es new:List Int}(h:∀ e∈es,N e)(g:∀ e∈new,N e):∀ e∈fE sh p es new,N e:=by
 intro x hx;unfold fE at hx;split at hx
 ·exact h x hx
 ·rw[List.mem_append,List.mem_append]at hx;rcases hx with (z|z)|z
  ·exact Gm hs p es 0 h x (.inl z)
  ·exact g x z
  ·exact Gm hs p es 0 h x (.inr z)
theorem Gd.cl{n:Nat}{rows:cO}{sh:Int->List Int}(h:Gd n rows sh):∀ e,t9 n rows.length e->∀ x∈aW sh e,t9 n rows.length x:=by
 intro e he x hx;unfold aW at hx;rcases he with z|z
 ·rw[if_neg ∅]at hx;rw[List.mem_singleton.mp hx];exact .inl z
 ·rw[if_pos z.1]at hx;exact .inl (h.in_ _ ∅ z.2 x hx)
theorem Gd.own{n:Nat}{rows:cO}{sh:Int->List Int}(h:Gd n rows sh)(s:Int):∀ e∈gx.own rows s,t9 n rows.length e:=by
 unfold gx.own
 cases e:rows[s.toNat]? with
 | none=>exact λ_ z=>nomatch z
 | some es=>exact h.en es (pA e)
inductive LD
 | put (s p:Int) (r:Addr) (row:Row)
 | cut (s a b:Int)
 | Tr (s a b t:Int)
 | UW (t p s a b:Int)
 | win (t p s:Int)
 | fix (s:Int)
def LD.sh:LD->Int
 | .put s _ _ _=>s
 | .cut s _ _=>s
 | .Tr s _ _ _=>s
 | .UW t _ _ _ _=>t
 | .win t _ _=>t
 | .fix s=>s
def LD.At(H:Hp)(d:Addr):LD->Prop
 | .put s p r row=>H d=some (.tup [.str "put",.int s,.int p,.ref r])/\ck H r row
 | .cut s a b=>H d=some (.tup [.str "cut",.int s,.int a,.int b])
 | .Tr s a b t=>H d=some (.tup [.str "move",.int s,.int a,.int b,.int t])
 | .UW t p s a b=>H d=some (.tup [.str "quote",.int t,.int p,.int s,.int a,.int b])
 | .win t p s=>H d=some (.tup [.str "window",.int t,.int p,.int s])
 | .fix s=>H d=some (.tup [.str "fix",.int s])
def LD.Ok(n m:Nat)(sh:Int->List Int):LD->Prop
 | .put s p _ row=>sS m s/\(0<=p/\p<=(sh s).length)/\row.length<=2/\∀ q∈row,0<=q.1/\q.1<q.2/\q.2<=(n:Nat)/\q.2<=q.1+40
 | .cut s a b=>sS m s/\MW a b (sh s).length
 | .Tr s a b t=>sS m s/\Mv a b t (sh s).length
 | .UW t p s a b=>sS m t/\(0<=p/\p<=(sh t).length)/\sS m s/\MW a b (sh s).length
 | .win t p s=>sS m t/\(0<=p/\p<=(sh t).length)/\sS m s
 | .fix s=>sS m s
def LD.res(sh:Int->List Int)(rows:cO):LD->List Int
 | .put s p _ row=>fE sh p (own rows s) (bu row)
 | .cut s a b=>bR sh a b (own rows s)
 | .Tr s a b t=>lY sh a b t (own rows s)
 | .UW t p s a b=>fE sh p (own rows t) (((sh s).take b.toNat).drop a.toNat)
 | .win t p s=>fE sh p (own rows t) [-1-s]
 | .fix s=>sh s
theorem LD.in_{n m:Nat}{sh:Int->List Int}{dd:LD}(h:dd.Ok n m sh):sS m dd.sh:=by
 cases dd with
 | fix=>exact h
 | _=>exact h.1
theorem LD.Xx{n:Nat}{rows:cO}{sh:Int->List Int}(g:Gd n rows sh){dd:LD}(h:dd.Ok n rows.length sh):∀ e∈dd.res sh rows,t9 n rows.length e:=by
 have cl:=g.cl
 cases dd with
 | put s p r row =>
  refine xO cl (g.own s) λe he=>.inl (P4 (λq hq=>?_) he);have:=h.2.2.2 q hq;exact⟨this.1,this.2.1,this.2.2.1⟩
 | cut s a b =>
  intro e he;unfold LD.res bR at he;dsimp only at he;split at he
  ·exact g.own s e he
  ·exact Qd cl a b _ 0 (g.own s) e (.inl he)
 | Tr s a b t =>
  intro e he;unfold LD.res lY at he;dsimp only at he;split at he
  ·exact g.own s e he
  ·have kk:=Qd cl a b (own rows s) 0 (g.own s);rw[List.mem_append,List.mem_append]at he;rcases he with (z|z)|z
   ·exact Gm cl t _ 0 (λy hy=>kk y (.inl hy)) e (.inl z)
   ·exact kk e (.inr z)
   ·exact Gm cl t _ 0 (λy hy=>kk y (.inl hy)) e (.inr z)
 | UW t p s a b =>
  refine xO cl (g.own t) λe he=>.inl (g.in_ s h.2.2.1.1 h.2.2.1.2 e (List.mem_of_mem_take (List.mem_of_mem_drop he)))
 | win t p s =>
  refine xO cl (g.own t) λe he=>.inr ?_;rw[List.mem_singleton.mp he];have:=h.2.2;unfold sS at this;lia
 | fix s=>exact λe he=>.inl (g.in_ s h.1 h.2 e he)
theorem LD.At.same{H H':Hp}{d:Addr}{dd:LD}(s:aK H H')(h:dd.At H d):dd.At H' d:=by
 cases dd with
 | put=>exact⟨s _ _ h.1,h.2.same s⟩
 | _=>exact s _ _ h
theorem Qe(sh:Int->List Int){a b:Int}{N:Int->Prop}:∀ (es:List Int) (f:Int),(∀ e∈es,∀ x∈aW sh e,N x)->∀ x∈kE sh a b f es,x∈es\/N x
 | [],_,_=>λx hx=>by cases hx
 | e::r,f,h=>by
  intro x hx;rw[kE]at hx;rcases List.mem_append.mp hx with z|z
  ·unfold Kw at z;split at z
   ·rw[List.mem_singleton.mp z];exact .inl (by simp)
   ·split at z
    ·cases z
    ·rcases List.mem_append.mp z with y|y
     ·exact .inr (h e (by simp) x (List.mem_of_mem_take y))
     ·exact .inr (h e (by simp) x (List.mem_of_mem_drop y))
  ·rcases Qe sh r _ (λe he=>h e (mE _ he)) x z with y|y
   ·exact .inl (mE _ y)
   ·exact .inr y
theorem AD(sh:Int->List Int):∀ (xs:List Int),(∀ x∈xs,0<=x)->aS sh xs=xs
 | [],_=>rfl
 | x::xs,h=>by rw[bQ,sO sh (h x (by simp)),AD sh xs λy hy=>h y (mE _ hy)];rfl
theorem KL(sh:Int->List Int){a b:Int}(ab:a<=b):∀ (es:List Int) (f:Int),(∀ e∈es,∀ x∈aW sh e,0<=x)->(aS sh (kE sh a b f es)).length<=(aS sh es).length
 | [],_,_=>by simp[kE]
 | e::r,f,h=>by
  rw[kE,jI,bQ,cP,cP];have ih:=KL sh ab r (f+(aW sh e).length) (λe he=>h e (mE _ he))
  have one:(aS sh (Kw sh a b f e)).length<=(aW sh e).length:=by
   unfold Kw;split
   ·rw[bQ];simp[aS]
   ·split
    ·simp[aS]
    ·rename_i c1 c2;have h1:=h e (by simp);rw[jI,AD sh _ λx hx=>h1 x (List.mem_of_mem_take hx),AD sh _ λx hx=>h1 x (List.mem_of_mem_drop hx),cP,gB,qO];lia
  lia
theorem UX(sh:Int->List Int){a b:Int}(ab:a<b):∀ (es:List Int) (f:Int),f<=a->a<f+(aS sh es).length->tE sh a b f es≠[]
 | [],f,h,g=>by simp[aS]at g;lia
 | e::r,f,h,g=>by
  rw[bQ,cP]at g;rw[tE];intro z;obtain⟨z1,z2⟩:=List.append_eq_nil_iff.mp z;by_cases c1:f+(aW sh e).length<=a
  ·exact UX sh ab r (f+(aW sh e).length) c1 ∅ z2
  ·unfold M6 at z1;rw[if_neg (λy=>y.elim c1 ∅)]at z1;split at z1
   ·cases z1
   ·rename_i c2;have q:=congrArg List.length z1;rw[qO,gB,qQ]at q;lia
theorem Gn{sh sg:Int->List Int}(p:Int):∀ (es:List Int) (f:Int),(∀ e∈es,aW sh e=aW sg e)->aE sh p f es=aE sg p f es
 | [],_,_=>rfl
 | e::r,f,h=>by rw[aE,aE,h e (by simp),Gn p r _ λx hx=>h x (mE _ hx)]
theorem Gp{sh sg:Int->List Int}(p:Int):∀ (es:List Int) (f:Int),(∀ e∈es,aW sh e=aW sg e)->bE sh p f es=bE sg p f es
 | [],_,_=>rfl
 | e::r,f,h=>by rw[bE,bE,h e (by simp),Gp p r _ λx hx=>h x (mE _ hx)]
theorem Gq{sh sg:Int->List Int}:∀ (es:List Int),(∀ y∈dM es,(sg y).length<=(sh y).length)->(aS sg es).length<=(aS sh es).length
 | [],_=>by simp[aS]
 | e::r,h=>by
  rw[bQ,bQ,cP,cP]
  have ih:=Gq (sh:=sh) (sg:=sg) r λy hy=>h y (by
   obtain⟨a,b⟩:=cy.mp hy
   exact cy.mpr ⟨a,mE _ b⟩)
  have one:(aW sg e).length<=(aW sh e).length:=by
   unfold aW;by_cases c:e<0
   ·rw[if_pos c,if_pos c];exact h _ (cy.mpr ⟨Q,by rw[show -1-(-1-e)=e by lia];simp⟩)
   ·rw[if_neg c,if_neg c];exact fH _
  lia
structure aba(rows:cO)(sh:Int->List Int)(rk:Int->Nat)(s a b:Int)(es:List Int)(rs:cO)(sg:Int->List Int):Prop where
 snd:gr rs
 nx:∀ x y,jO rs x y->jO rows x y
 Pa:m9 rs sg
 bd:∀ x:Int,0<=x->x<rs.length->(sg x).length<=10000
 eq:∀ n,rk n<rk s->0<=n->n<rows.length->sg n=sh n
theorem Qf{rows:cO}{sh:Int->List Int}{rk:Int->Nat}{s a b:Int}{es:List Int}(qp:gr rows)(hrb:∀ x,rk x<=40)(Ul:∀ x y,jO rows x y->rk y<rk x)(xX:m9 rows sh)(Eu:∀ x:Int,0<=x->x<rows.length->(sh x).length<=10000)(h0:0<=s)(h1:s<rows.length)(he:rows[s.toNat]?=some es)(ab:a<=b):∃ sg,aba rows sh rk s a b es (rows.set s.toNat (bR sh a b es)) sg:=by
 have hnn:=oW qp ⟨rk,hrb,Ul⟩ xX
 have ent:∀ e∈es,∀ x∈aW sh e,0<=x:=λe hm x hx=>by
  unfold aW at hx;by_cases c:e<0
  ·rw[if_pos c]at hx;have nx:jO rows s (-1-e):=⟨h0,es,he,cy.mpr ⟨Q,by rw[show -1-(-1-e)=e by lia];exact hm⟩⟩;obtain⟨p,q⟩:=qp.Es nx;exact hnn _ p q x hx
  ·rw[if_neg c]at hx;rw[List.mem_singleton.mp hx];lia
 have win:∀ y∈dM (bR sh a b es),y∈dM es:=λy hy=>by
  obtain⟨y0,hm⟩:=cy.mp hy;refine cy.mpr ⟨y0,?_⟩;unfold bR at hm;split at hm
  ·exact hm
  ·rcases Qe sh es 0 ent _ hm with z|z
   ·exact z
   ·lia
 have nx:∀ x y,jO (rows.set s.toNat (bR sh a b es)) x y->jO rows x y:=by
  rintro x y ⟨x0,wz,hx,hy⟩;by_cases c:x.toNat=s.toNat
  ·rw[c,List.getElem?_set,if_pos rfl]at hx;split at hx
   ·cases hx;exact⟨x0,es,by rw[c];exact he,win y hy⟩
   ·cases hx
  ·rw[List.getElem?_set_ne (λz=>c z.symm)]at hx;exact⟨x0,wz,hx,hy⟩
 have snd:gr (rows.set s.toNat (bR sh a b es)):=λwz hm y hy=>by
  rw[List.length_set];rcases List.mem_or_eq_of_mem_set hm with z|z
  ·exact qp wz z y hy
  ·subst z;exact qp es (pA he) y (win y hy)
 obtain⟨sg,hsg⟩:=Ay (rows:=rows.set s.toNat (bR sh a b es)) ⟨rk,hrb,λx y h=>Ul x y (nx x y h)⟩
 have Tt:(rows.set s.toNat (bR sh a b es))[s.toNat]?=some (bR sh a b es):=by
  rw[List.getElem?_set,if_pos rfl,if_pos ∅]
 have key:∀ (k:Nat) (x:Int),rk x<k->0<=x->x<rows.length->(rk x<rk s->sg x=sh x)/\(sg x).length<=(sh x).length:=by
  intro k
  induction k with
  | zero=>intro x h;lia
  | succ k ih =>
   intro x hx x0 x1;by_cases c:x.toNat=s.toNat
   ·have xs:x=s:=by lia
    subst xs;refine⟨λz=>by lia,?_⟩;have e1:=hsg x _ x0 Tt
    have e2:aS sg (bR sh a b es)=aS sh (bR sh a b es):=rX λy hy=>by
     have n:=Ul x y ⟨x0,es,he,win y hy⟩;obtain⟨p,q⟩:=qp.Es ⟨x0,es,he,win y hy⟩;exact (ih y ∅ p q).1 n
    rw[e1,e2,xX x es x0 he];unfold bR;split
    ·exact fH _
    ·exact KL sh ab es 0 ent
   ·have hx1:rows[x.toNat]?=some rows[x.toNat]:=qM ∅;have e1:=hsg x _ x0 (by rw[List.getElem?_set_ne (λz=>c z.symm)];exact hx1);have e2:=xX x _ x0 hx1
    have low:∀ y∈dM rows[x.toNat],rk y<rk x/\0<=y/\y<rows.length:=λy hy=>by
     have n:jO rows x y:=⟨x0,_,hx1,hy⟩;exact⟨Ul x y n,qp.Es n⟩
    refine⟨λz=>?_,?_⟩
    ·rw[e1,e2];exact rX λy hy=>(ih y (by have:=(low y hy).1;lia) (low y hy).2.1 (low y hy).2.2).1 (by have:=(low y hy).1;lia)
    ·rw[e1,e2];exact Gq _ λy hy=>(ih y (by have:=(low y hy).1;lia) (low y hy).2.1 (low y hy).2.2).2
 refine⟨sg,snd,nx,hsg,λx x0 x1=>?_,λn h n0 n1=>(key (rk n+1) n (Nat.lt_succ_self _) n0 n1).1 h⟩;rw[List.length_set]at x1;have:=(key (rk x+1) x (Nat.lt_succ_self _) x0 x1).2;have:=Eu x x0 x1;lia
theorem Tu{rows:cO}{sh sg:Int->List Int}{rk:Int->Nat}{s a b to:Int}{es:List Int}(qp:gr rows)(hrb:∀ x,rk x<=40)(Ul:∀ x y,jO rows x y->rk y<rk x)(xX:m9 rows sh)(h0:0<=s)(he:rows[s.toNat]?=some es)(a0:0<=a)(ab:a<=b)(bn:b<=(sh s).length)(R:aba rows sh rk s a b es (rows.set s.toNat (bR sh a b es)) sg)(hk:(rows.set s.toNat (bR sh a b es))[s.toNat]?=some (bR sh a b es)):fE sg to (bR sh a b es) (ig sh a b es)=lY sh a b to es:=by
 unfold lY;by_cases c:a=b
 ·have e1:ig sh a b es=[]:=by unfold ig;rw[if_pos c]
  have e2:bR sh a b es=es:=by unfold bR;rw[if_pos c]
  rw[if_pos c,e1,e2];rfl
 ·rw[if_neg c];have e1:ig sh a b es=tE sh a b 0 es:=by unfold ig;rw[if_neg c]
  have e2:bR sh a b es=kE sh a b 0 es:=by unfold bR;rw[if_neg c]
  have ne:tE sh a b 0 es≠[]:=UX sh ∅ es 0 a0 (by rw[← xX s es h0 he];lia)
  have ag:∀ e∈bR sh a b es,aW sg e=aW sh e:=λe hm=>by
   unfold aW;by_cases d:e<0
   ·rw[if_pos d,if_pos d];have n:jO (rows.set s.toNat (bR sh a b es)) s (-1-e):=⟨h0,_,hk,cy.mpr ⟨Q,by rw[show -1-(-1-e)=e by lia];exact hm⟩⟩;have n':=R.nx _ _ n;obtain⟨p,q⟩:=qp.Es n';exact R.eq _ (Ul _ _ n') p q
   ·rw[if_neg d,if_neg d]
  unfold fE;rw[e1,if_neg ne,Gn to _ 0 ag,Gp to _ 0 ag,e2]
theorem MK{X:Cx}(hc:X.calm=true):jV X (.builtin "max") (λxs H Q=>∃ (p:Addr) (ns:List Int),xs=[.ref p]/\bI X.K H p (ns.map V.int)/\0<ns.length/\∀ M,M∈ns->(∀ a∈ns,a<=M)->Q (.int M) H):=by
 intro ao s σ H xs us Q I r h;obtain⟨p,ns,rfl,hq,ne,q⟩:=h;obtain⟨u,rfl,rx⟩:=r.one;cases (show u=Value.ref p from rx);obtain⟨aL,rv,pl,hz⟩:=I.list hq;have hi:PyProof.Rows.IntsAre aL ns:=intsAre_of rv;obtain⟨xs,e⟩:=hi.allInts.items;have hl:=pl.isList
 have MU:ns=xs.toList.map (·.1):=by
  rw[← hi.numsOf,← PySem.nums_intItems,← e]
 have hsz:0<xs.size:=by
  have h3:=ne;rw[MU,cz,Array.length_toList]at h3;exact h3
 rw[e]at hl;refine PySem.max_intList (I.ok.hd hc) hl hsz λv h' tk hv hk=>?_;obtain⟨t,rfl⟩:=PySem.intItems_at hv;obtain⟨h1,h2⟩:=PySem.argBest_gt (PySem.numAt xs) (xs.size-1);refine⟨.int _,H,I.kept hk,⟨t,rfl⟩,q _ ?_ λa ha=>?_⟩
 ·rw[MU,PySem.numAt_eq];exact PySem.getD_mem (by rw[cz,Array.length_toList];lia)
 ·rw[MU]at ha;obtain⟨j,hj,rfl⟩:=PySem.mem_getD ha;rw[cz,Array.length_toList]at hj;rw[← PySem.numAt_eq];exact h2 j ∅
class inductive Qg
 | mk (av:Addr->Prop) (r:Addr) (rows:cO) (s:Int) (_:vs=[.ref r,.int s]) (_:ic av H r rows) (_:rows.length<=40) (_:∀ es∈rows,es.length<=100000) (_:gr rows) (_:0<=s) (_:s<rows.length) (_:¬ Reach (jO rows) s s->∀ x,¬ Reach (jO rows) x x) (_:∀ (b:Bool) (H':Hp),aK H H'->(b=true->Dg rows/\∃ f,Weighs rows f/\∀ x:Int,0<=x->x<rows.length->f x<=200)->Q (.bl b) H')
theorem Gr:aH ["_law_rows","_law_sheet"] ["_law_rows","_law_sheet"] (aA pX):=fc
theorem Gs:‹(43,83,["_law_rows","_law_sheet"],Qg)›:=λD=>by
 refine fG D.aaf.F Gr λdm A zn s0 H vs Q E hr h=>?_;obtain⟨av,r,rows,s,rfl,R,ln,he,sd,s0,s1,rg,k⟩:=h;refine⟨_,(aj (bP (aV Lh (pv 1) (aC D.aae (AA D) hr (aa (pv 0) (aa (pv 1) ah))) rfl) (au (aN qm)) bf) (au (aN (lT gn (b9 (MK rfl) rfl D.T.zV PyProof.Rows.boot_max (aa (gZ (N:=["_law_other","_law_rows"]) (nL (sc:=aA pX) (NX:=["_law_rows","_law_sheet"]) (jx:=[none,some 0]) rfl rfl rfl nofun nofun rfl nofun rfl nofun) rfl (gJ rfl D.T.jc (aa (fX D.T.fj (pv 0)) ah)) (λ_ _ _ _ _ _=>(b8 (i:=0) (show List.Nodup (["_law_other","_law_rows"]:List Str) by decide +kernel))) (λ_ _ _ _ _ _=>jb) (λ_ _ _ _ _ _=>(aC D.WM (rY D 41) hr (aa (pv 1) (aa (pv 0) ah))))) ah)) ay (bh _))))),?_⟩;refine⟨Y,Y,Y,av,r,rows,s,rfl,R,Q,he,sd,s0,s1,λL o H1 ho sm iff=>?_⟩;exists o,Y,.inl (bI.of ho),rfl,xj L,Y;rw[Df];by_cases hm:s∈L
 ·rw[decide_eq_true hm];exact jA (k false H1 sm λz=>nomatch z)
 rw[decide_eq_false hm];refine gh ?_;have R1:=Xw sd ln (rg λz=>hm ((iff s).mpr z));obtain⟨f,hf⟩:=Mf R1;obtain⟨rk,rb,dn⟩:=id R1;have Rs:=R.same sm;obtain⟨vs,jP,al⟩:=id Rs;have lv:=al.len;have gN:∀ i:Nat,((List.range i).map λj:Nat=>f (j:Int)).length=i:=λi=>by rw[cz,List.length_range]
 refine⟨Y,r,Y,.inl (bI.of jP),Y,Q,Q,λacc cT=>rF (lo:=0) (k:=((vs.length:Nat):Int).toNat) (λi σ H2=>∃ u:Option V,σ=[u,some (.ref r)]/\H2 acc=some (.lst (((List.range i).map λj:Nat=>f (j:Int)).map V.int))/\aK H1 H2) ⟨none,rfl,af,ak cT _⟩ ?_ ?_⟩
 ·rintro i σ H2 hi ⟨u,rfl,ha,s2⟩;have il:i<rows.length:=by lia
  refine⟨Y,Y,av,r,rows,0+(i:Int),f,rk,rfl,Rs.same s2,Q,sd,Q,Q,hf,dn,by have:=rb (0+(i:Int));lia,_,ha,(by rw[cz,gN];exact aR ∅),Y,?_,bS cT s2 (aG acc _ _)⟩;rw[af,List.range_succ,gy,gy,Int.zero_add];rfl
 ·rintro σ H2 ⟨u,rfl,ha,s2⟩;refine⟨acc,Y,bI.of ha,by rw[gN];lia,λM _ hM=>⟨Z,?_⟩⟩;refine k _ H2 (sm.trans s2) λz=>⟨R1,f,hf,λx x0 x1=>?_⟩;have y:=hM (f x) (List.mem_map.mpr ⟨x.toNat,List.mem_range.mpr ∅,by rw[show ((x.toNat:Nat):Int)=x by lia]⟩);have:=of_decide_eq_true z;lia
theorem cC{a b:Str}(h:a≠b){A B:Prop}(z:B):if decide (V.str a=V.str b)=true then A else B:=by
 rw[if_neg λy=>h (V.str.inj (of_decide_eq_true y))];exact z
theorem jd{a:Str}{A B:Prop}(z:A):if decide (V.str a=V.str a)=true then A else B:=by
 rw[if_pos (decide_eq_true rfl)];exact z
theorem Na.at_{W:Addr->Prop}{H:Hp}{a:Addr}{rows:cO}(h:Na W ik ps H a rows):ic (λ_=>False) H a rows:=by
 obtain⟨_,_,_,vs,hv,al⟩:=h;exact⟨vs,hv,al.mono λv es ⟨b,e,K,hb⟩=>⟨b,e,λz=>z,hb⟩⟩
theorem jL{rows:cO}{s:Int}(h:sS rows.length s):rows[s.toNat]?=some (own rows s):=by
 have:s.toNat<rows.length:=by have:=h.1;have:=h.2;lia
 unfold own;rw[qM this];rfl
class inductive KN
 | mk (W:Addr->Prop) (w d:Addr) (aI:iN) (pq:iS) (rows:cO) (n:Nat) (sh:Int->List Int) (dd:LD) (_:vs=[.ref w,.ref d]) (_:Wo W H w aI pq rows) (_:dd.At H d) (_:Gd n rows sh) (_:dd.Ok n rows.length sh) (_:n<=10000) (_:∀ (o:Addr) (H':Hp),H' o=some (.lst ((dd.res sh rows).map V.int))->(dd.res sh rows).length<=100000->aK H H'->H o=none->Q (.ref o) H')
theorem jM:aH ["_law_world_here","_law_deed_here","_law_rows","_law_name","_law_kept","_law_taken"] ["_law_world_here","_law_deed_here"] (aA rB):=fc
theorem D4:‹(45,84,["_law_world_here","_law_deed_here"],KN)›:=λD=>by
 have sW:bq P w K mg zt cM 44 _ _ zl8 (IW 41):=IX D;have CC:bq P w K mg zt cM 44 _ _ zl9 (P8 41):=IY D;refine fG D.aag.F jM λdm A zn s0 H vs Q E hr h=>?_;obtain⟨W,w,d,aI,pq,rows,n,sh,dd,rfl,wo,hd,g,ok,n10,k⟩:=h;have hu:=gT hr;exists _,(aj (aU (i:=2) jM.nd (ie hu (pv 0) bH)) (aj (aU (i:=3) jM.nd (aP aX (pv 1) ay)) (aj (bP (aV dR (pv 3) bH (bh _)) (au (aN (aC D.OW sW hr (aa (pv 2) (aa (aP aX (pv 1) ay) (aa (aP aX (pv 1) ay) (aa (aC D.Sb (wm D) hr (aa (aP aX (pv 1) ay) ah)) ah))))))) bf) (aj (bP (aV dR (pv 3) bH (bh _)) (au (aN (aP aX (aC D.WL CC hr (aa (pv 2) (aa (aP aX (pv 1) ay) (aa (aP aX (pv 1) ay) (aa (aP aX (pv 1) ay) ah))))) ay))) bf) (aj (bP (aV dR (pv 3) bH (bh _)) (aj (mH (aC D.WL CC hr (aa (pv 2) (aa (aP aX (pv 1) ay) (aa (aP aX (pv 1) ay) (aa (aP aX (pv 1) ay) ah))))) (kY (n:=2) rfl (bT (b8 (i:=4) jM.nd) (bT (b8 (i:=5) jM.nd) gC)))) (au (aN (aC D.OW sW hr (aa (aC D.WJ (yq D) hr (aa (pv 2) (aa (aP aX (pv 1) ay) (aa (pv 4) ah)))) (aa (aP aX (pv 1) ay) (aa (aP aX (pv 1) ay) (aa (pv 5) ah)))))))) bf) (aj (bP (aV dR (pv 3) bH (bh _)) (au (aN (aC D.OW sW hr (aa (pv 2) (aa (aP aX (pv 1) ay) (aa (aP aX (pv 1) ay) (aa (iV lV (aC D.Ft (iz D 41) hr (aa (pv 2) (aa (aP aX (pv 1) ay) ah))) (i7 (aP aX (pv 1) ay)) (i7 (aP aX (pv 1) ay))) ah))))))) bf) (aj (bP (aV dR (pv 3) bH (bh _)) (au (aN (aC D.OW sW hr (aa (pv 2) (aa (aP aX (pv 1) ay) (aa (aP aX (pv 1) ay) (aa (bM (aa (bx cQ (gG eG ay) (aP aX (pv 1) ay)) ah)) ah))))))) bf) (aj (bP (aV dR (pv 3) bH (bh _)) (au (aN (aC D.Ft (iz D 41) hr (aa (pv 2) (aa (aP aX (pv 1) ay) ah))))) bf) (au (aN (aP bG (aP bG (ie hu (pv 0) bH) (aP aX (pv 1) ay)) (aP aX (pv 1) ay))))))))))));obtain⟨ik,kZ,ps,vl,wu⟩:=id wo;have zr:=jD.k (k:=kR) wu.hw;rw[show cI (vf ik kZ ps vl) kR=some (.ref kZ) by kernel_rfl]at zr;have R:=wu.hr.at_;obtain⟨rk,rb,dn⟩:=g.sn.rk;have l40:=g.ln;have lr:rows.length<=1000:=by lia
 have rb':∀ s,rk s<=41:=λs=>by have:=rb s;lia
 have e25:∀ es∈rows,es.length<=25000:=λes he=>by have:=g.es es he;lia
 exists Y,w,Y,zr
 have jN:∀ {s p:Int} {new:List Int} {q o:Addr} {H1:Hp} {Q:VK} {E:XK},sS rows.length s->ic (λ_=>False) H1 q rows->H1 o=some (.lst (new.map V.int))->new.length<=25000->aK H H1->(∀ (o:Addr) (H':Hp),H' o=some (.lst ((fE sh p (own rows s) new).map V.int))->(fE sh p (own rows s) new).length<=100000->aK H H'->H o=none->Q (.ref o) H')->IW 41 [.ref q,.int s,.int p,.ref o] H1 Q E:=by
  intro s p new q o H1 Q E is R1 ho ln s1 k1;refine⟨_,q,o,rows,s,p,new,sh,rk,rfl,R1,lr,e25,g.sn.sd,g.sn.ss,g.sn.ln,dn,is.1,is.2,rb' s,ho,ln,λes o2 H2 oH h2 l2 s2 f2=>?_⟩;rw[jL is]at oH;cases oH;exact k1 o2 H2 h2 l2 (s1.trans s2) (aY s1 f2)
 cases dd with
 | put s p r row =>
  obtain⟨hd,Qh⟩:=hd;obtain⟨is,ip,l2,hq⟩:=ok;exists Y,d,K,V,cY.of hd,uQ;refine⟨Y,rfl,Y,jd ?_⟩;have bd:=wj (k:=40) (row:=row) λq h=>by have:=hq q h;lia
  refine⟨Y,Y,d,K,V,cY.of hd,vJ,Y,d,K,V,cY.of hd,A0,Y,d,K,V,cY.of hd,A1,r,row,rfl,Qh,λq h=>by have:=hq q h;lia,Q,Q,λo1 H1 h1 s1 f1=>?_⟩;exact jN is (R.same s1) h1 ∅ s1 k
 | cut s a b =>
  obtain⟨is,i3⟩:=ok;exists Y,d,K,V,cY.of hd,uQ;refine⟨Y,rfl,Y,cC nofun ⟨Y,rfl,Y,jd ?_⟩⟩;refine⟨Y,Y,d,K,V,cY.of hd,vJ,Y,d,K,V,cY.of hd,A0,Y,d,K,V,cY.of hd,A1,_,kZ,rows,s,a,b,sh,rk,rfl,R,lr,(λes he=>by have:=g.es es he;lia),g.sn.sd,g.sn.ss,g.sn.ln,dn,is.1,is.2,rb' s,i3.2.1,λes tu L M H1 oH ht hL hM s1 fL fM nLM=>?_⟩;rw[jL is]at oH;cases oH;refine⟨tu,K,V,cY.of ht,uQ,k L H1 hL ?_ s1 fL⟩;have cl:=uY sh a b (own rows s);have ls:=g.sl s is.1 is.2;rw[g.sn.ss s _ is.1 (jL is)]at ls;have:=g.es _ (pA (jL is));show (bR sh a b (own rows s)).length<=_;lia
 | Tr s a b t =>
  obtain⟨is,mv⟩:=ok;have i3:=mv.1;have lo:=g.es _ (pA (jL is));have e:=g.sn.ss s _ is.1 (jL is);have ls:=g.sl s is.1 is.2;rw[e]at ls;have cl:=uY sh a b (own rows s);have tl:=AB sh a b (own rows s);exists Y,d,K,V,cY.of hd,uQ;refine⟨Y,rfl,Y,cC nofun ⟨Y,rfl,Y,cC nofun ⟨Y,rfl,Y,jd ?_⟩⟩⟩;refine⟨Y,Y,d,K,V,cY.of hd,vJ,Y,d,K,V,cY.of hd,A0,Y,d,K,V,cY.of hd,A1,_,kZ,rows,s,a,b,sh,rk,rfl,R,lr,(λes he=>by have:=g.es es he;lia),g.sn.sd,g.sn.ss,g.sn.ln,dn,is.1,is.2,rb' s,i3.2.1,λes tu L M H1 oH ht hL hM s1 fL fM nLM=>?_⟩;rw[jL is]at oH;cases oH;obtain⟨vs,jP,al⟩:=R.same s1;have lv:=al.len;have is1:=is.1;have is2:=is.2;have LC:=s1 _ _ hd;exists tu,Y,cY.of ht,rfl,P,rfl,Z;refine⟨Y,Y,d,K,V,cY.of LC,vJ,Y,kZ,L,s.toNat,vs,(by rw[show ((s.toNat:Nat):Int)=s by lia];rfl),jP,Q,Q,λq H2 hq s2 fq=>?_⟩;have hd2:=s2 _ _ LC;obtain⟨sg,RR⟩:=Qf (a:=a) (b:=b) g.sn.sd rb dn g.sn.ss g.sn.ln is.1 is.2 (jL is) i3.2.1
  have Tt:(rows.set s.toNat (bR sh a b (own rows s)))[s.toNat]?=some (bR sh a b (own rows s)):=by
   rw[List.getElem?_set,if_pos rfl,if_pos ∅]
  have R2:ic (λ_=>False) H2 q (rows.set s.toNat (bR sh a b (own rows s))):=⟨_,hq,cu.set _ (al.mono λv es z=>eZ.same s2 z) ⟨L,rfl,λz=>z,s2 _ _ hL⟩⟩
  refine⟨Y,d,K,V,cY.of hd2,vJ,Y,d,K,V,cY.of hd2,RQ,Y,_,q,M,_,s,t,ig sh a b (own rows s),sg,rk,rfl,R2,by rw[List.length_set];lia,(λwz hm=>by
   rcases List.mem_or_eq_of_mem_set hm with z|z
   ·exact e25 wz z
   ·rw[z];lia),RR.snd,RR.Pa,RR.bd,(λx y h=>dn x y (RR.nx x y h)),is.1,by rw[List.length_set];exact is.2,rb' s,s2 _ _ hM,Q,λwz o H3 J9 h3 l3 s3 f3=>?_⟩
  rw[Tt]at J9;cases J9;rw[Tu g.sn.sd rb dn g.sn.ss is.1 (jL is) i3.1 i3.2.1 i3.2.2 RR Tt]at h3 l3;exact k o H3 h3 l3 (s1.trans (s2.trans s3)) (aY (s1.trans s2) f3)
 | UW t p s a b =>
  obtain⟨it,ip,is,i3⟩:=ok;exists Y,d,K,V,cY.of hd,uQ;refine⟨Y,rfl,Y,cC nofun ⟨Y,rfl,Y,cC nofun ⟨Y,rfl,Y,cC nofun ⟨Y,rfl,Y,jd ?_⟩⟩⟩⟩;have ls:=g.sl s is.1 is.2;refine⟨Y,Y,d,K,V,cY.of hd,vJ,Y,d,K,V,cY.of hd,A0,Y,Y,d,K,V,cY.of hd,A1,_,kZ,rows,s,sh,rk,rfl,R,lr,g.sn.sd,is.1,is.2,g.sn.ss,g.sn.ln,dn,by have:=rb s;lia,λo1 H1 h1 s1 f1=>?_⟩;have LC:=s1 _ _ hd;refine⟨Y,d,K,V,cY.of LC,RQ,Y,Y,d,K,V,cY.of LC,ZA,Y,o1,Y,bI.of h1,λq hq=>?_⟩;have s2:=ak hq (.lst (kC ((sh s).map V.int) (some a) (some b)));have h2:(aM H1 q (.lst (kC ((sh s).map V.int) (some a) (some b)))) q=some (.lst ((((sh s).take b.toNat).drop a.toNat).map V.int)):=by rw[af,F5 _ i3.1 (by have:=i3.1;have:=i3.2.1;lia),List.map_drop,List.map_take]
  generalize aM H1 q (.lst (kC ((sh s).map V.int) (some a) (some b)))=H2 at s2 h2;exact jN it (R.same (s1.trans s2)) h2 (by rw[qO,gB];lia) (s1.trans s2) k
 | win t p s =>
  obtain⟨it,ip,is⟩:=ok;exists Y,d,K,V,cY.of hd,uQ;refine⟨Y,rfl,Y,cC nofun ⟨Y,rfl,Y,cC nofun ⟨Y,rfl,Y,cC nofun ⟨Y,rfl,Y,cC nofun ⟨Y,rfl,Y,jd ?_⟩⟩⟩⟩⟩;refine⟨Y,Y,d,K,V,cY.of hd,vJ,Y,d,K,V,cY.of hd,A0,Y,Y,d,K,V,cY.of hd,A1,Z,m6,λq hq=>?_⟩;exact jN it (R.same (ak hq _)) af (by show 1<=25000;decide) (ak hq _) k
 | fix s =>
  exists Y,d,K,V,cY.of hd,uQ;refine⟨Y,rfl,Y,cC nofun ⟨Y,rfl,Y,cC nofun ⟨Y,rfl,Y,cC nofun ⟨Y,rfl,Y,cC nofun ⟨Y,rfl,Y,cC nofun ⟨Y,rfl,Y,jd ?_⟩⟩⟩⟩⟩⟩;exact⟨Y,Y,d,K,V,cY.of hd,vJ,_,kZ,rows,s,sh,rk,rfl,R,lr,g.sn.sd,ok.1,ok.2,g.sn.ss,g.sn.ln,dn,by have:=rb s;lia,λo1 H1 h1 s1 f1=>k o1 H1 h1 (by have:=g.sl s ok.1 ok.2;show (sh s).length<=_;lia) s1 f1⟩
theorem Gu{n:Nat}{row:Row}(h:∀ z∈row,0<=z.1/\z.1<z.2/\z.2<=(n:Nat)):rO n row=true:=List.all_eq_true.mpr λq hq=>by
 have:=h q hq;unfold QH;simp only[Bool.and_eq_true,decide_eq_true_eq];lia
def Tv:Sp:=λ_ _ _ _=>False
theorem Qi{k:Nat}{f:Addr}{ps:List Str}:bq P w K mg zt cM k f fd ps Tv:=⟨λvs H Q E h=>h.elim,λA zn s H args us vs Q E _ _ _ _ h=>h.elim⟩
theorem abc{i:Int}(h0:0<=i)(h1:i<=20000):wB i:=by
 have a:(20000:Int)<10^60:=by decide
 exact⟨Q,Q⟩
class inductive Qj(C CS CW CB:Addr)
 | mk (U:Addr->Prop) (x d:Addr) (pe:iS) (aB:iT) (aI:iN) (nW:Nat) (bO:Row) (rows:cO) (sh:Int->List Int) (dd:LD) (_:vs=[.ref x,.ref d]) (_:oG C CS CW CB U H x pe aB aI nW bO) (_:pe.getLast?=some rows) (_:pe.length<=900) (_:aB.length<=900) (_:aI.length<=10000) (_:dd.At H d) (_:Gd aI.length rows sh) (_:dd.Ok aI.length rows.length sh) (_:∃ f,nQ (iZ rows dd.sh.toNat (dd.res sh rows)) f) (_:∀ (U':Addr->Prop) (H':Hp) (dG:iT),dG.length=aB.length+1->oG C CS CW CB U' H' x (pe++[iZ rows dd.sh.toNat (dd.res sh rows)]) dG aI nW bO->Ew U U' H H'->Q .gm H')
theorem yr:aH ["_law_house","_law_deed_here","_law_name"] ["_law_house","_law_deed_here"] (aA uF):=fc
theorem Gv:‹(7,86,["_law_house","_law_deed_here"],(Qj C CS CW CB))›:=λD=>by
 have oK:bq P w K mg zt cM 4 (aZ 60) (br 60) ["self","hand","text"] Tv:=Qi;have ny:bq P w K mg zt cM 4 (aZ 57) (br 57) ["self"] Tv:=Qi;have Bo:bq P w K mg zt cM 4 (aZ 85) (br 85) ["self","sheet","moment"] Tv:=Qi;refine fG D.WO.F yr λdm A zn s0 H vs Q E hr h=>?_;obtain⟨U,x,d,pe,aB,aI,nW,bO,rows,sh,dd,rfl,LB,hl,l2,l3,l4,hd,g,ok,B,k⟩:=h;exists _,(aj (aU (i:=2) yr.nd (aP aX (pv 1) ay)) (aj (bP (aV dR (pv 2) bH (bh _)) (au (aN (cL (pv 0) D.aO D.RY oK hr bN (aa (aP aX (pv 1) ay) (aa (aP aX (pv 1) ay) ah))))) bf) (aj (bP (aV dR (pv 2) bH (bh _)) (au (aN (ff (pv 0) D.aO D.RX ny hr bN))) bf) (aj (bP (aV dR (pv 2) bH (bh _)) (au (aN (cL (pv 0) D.aO D.Z6 (Ar D) hr bN (aa (aP aX (pv 1) ay) (aa (aP aX (pv 1) ay) (aa (cR cS rfl D.T.gu oM (aa (aP aX (pv 1) ay) ah)) ah)))))) bf) (aj (bP (aV dR (pv 2) bH (bh _)) (au (aN (cL (pv 0) D.aO D.Z7 (As D) hr bN (aa (aP aX (pv 1) ay) (aa (aP aX (pv 1) ay) (aa (aP aX (pv 1) ay) ah)))))) bf) (aj (bP (aV dR (pv 2) bH (bh _)) (au (aN (cL (pv 0) D.aO D.aab (yL D) hr bN (aa (aP aX (pv 1) ay) (aa (aP aX (pv 1) ay) (aa (aP aX (pv 1) ay) (aa (aP aX (pv 1) ay) ah))))))) bf) (aj (bP (aV dR (pv 2) bH (bh _)) (au (aN (cL (pv 0) D.aO D.Z8 (xK D) hr bN (aa (aP aX (pv 1) ay) (aa (aP aX (pv 1) ay) (aa (aP aX (pv 1) ay) (aa (aP aX (pv 1) ay) (aa (aP aX (pv 1) ay) ah)))))))) bf) (aj (bP (aV dR (pv 2) bH (bh _)) (au (aN (cL (pv 0) D.aO D.Z9 (wc D) hr bN (aa (aP aX (pv 1) ay) (aa (aP aX (pv 1) ay) (aa (aP aX (pv 1) ay) ah)))))) bf) (aj (bP (aV dR (pv 2) bH (bh _)) (au (aN (cL (pv 0) D.aO D.aaa (Au D) hr bN (aa (aP aX (pv 1) ay) ah)))) bf) (au (aN (cL (pv 0) D.aO D.ad9 Bo hr bN (aa (aP aX (pv 1) ay) (aa (aP aX (pv 1) ay) ah))))))))))))));have l40:=g.ln;have l1:rows.length<=50:=by lia
 have sn:=g.sn;have one:∀ {l:List Nat},(aB++[l]).length=aB.length+1:=λ{l}=>by rw[cP];rfl
 have jN:∀ {s:Int},sS rows.length s->wB s:=λz=>abc z.1 (by have:=z.2;lia);have Xy:∀ {s p:Int},sS rows.length s->0<=p->p<=(sh s).length->wB p:=λz p0 p1=>abc p0 (by have:=g.sl _ z.1 z.2;lia);obtain⟨S',UM,d',UA,Tw,Yi,Yj,Yk,Yl,Ym,Eo,Ep,dw',sg',ow',pw',db',tb',DS,LU⟩:=id LB;have hx:=LU.L.hx
 cases dd with
 | put s p r row =>
  obtain⟨hd,Qh⟩:=hd;obtain⟨is,ip,r2,hq⟩:=ok;have hh:=Gu (n:=aI.length) (row:=row) λz h=>by have:=hq z h;exact⟨this.1,this.2.1,this.2.2.1⟩
  obtain⟨as,ha,pa⟩:=id Qh;exists Y,d,K,V,cY.of hd,uQ;refine⟨Y,rfl,Y,cC nofun ⟨Y,rfl,Y,cC nofun ⟨Y,rfl,Y,jd ?_⟩⟩⟩;refine⟨Y,x,d',Y,hx,rfl,Y,d,K,V,cY.of hd,vJ,Y,d,K,V,cY.of hd,A0,Y,d,K,V,cY.of hd,A1,r,Y,.inl (bI.of ha),λq VA=>?_⟩;have s1:=ak VA (.lst (as.map V.ref));have LO:ck (aM H q (.lst (as.map V.ref))) q row:=⟨as,af,pa.same s1⟩;generalize aM H q (.lst (as.map V.ref))=H1 at s1 LO;refine⟨U,x,q,pe,aB,aI,nW,bO,row,s,p,rows,rfl,LB.same s1,LO,⟨Q,λz h=>by have:=hq z h;exact⟨⟨Q,Q⟩,⟨Q,Q⟩⟩⟩,Q,hl,l1,l2,l3,jN is,Xy is ip.1 ip.2,is,hh,⟨sh,sn,ip,λes oH=>?_⟩⟩;rw[jL is]at oH;cases oH
  have ee:cZ (cD (bZ row))=bu row:=by
   rw[ng,jo _ λq h=>by have:=hq q h;lia]
  rw[ee];exact⟨B,λU' H' L' fr=>k U' H' _ one L' (fr.pre s1)⟩
 | cut s a b =>
  obtain⟨is,i3⟩:=ok;exists Y,d,K,V,cY.of hd,uQ;refine⟨Y,rfl,Y,cC nofun ⟨Y,rfl,Y,cC nofun ⟨Y,rfl,Y,cC nofun ⟨Y,rfl,Y,jd ?_⟩⟩⟩⟩;refine⟨Y,x,d',Y,hx,rfl,Y,d,K,V,cY.of hd,vJ,Y,d,K,V,cY.of hd,A0,Y,d,K,V,cY.of hd,A1,U,x,pe,aB,aI,nW,bO,s,a,b,rows,rfl,LB,hl,l1,l2,l3,jN is,Xy is i3.1 (by have:=i3.2.1;have:=i3.2.2;lia),Xy is (by have:=i3.2.1;have:=i3.1;lia) i3.2.2,is,⟨sh,sn,i3,λes oH=>?_⟩⟩;rw[jL is]at oH;cases oH;exact⟨B,λU' H' L' fr=>k U' H' _ one L' fr⟩
 | Tr s a b t =>
  obtain⟨is,mv⟩:=ok;have i3:=mv.1;have i1:=i3.1;have i2:=i3.2.1;have i4:=i3.2.2;have i5:=mv.2;have sl:=g.sl s is.1 is.2;exists Y,d,K,V,cY.of hd,uQ;refine⟨Y,rfl,Y,cC nofun ⟨Y,rfl,Y,cC nofun ⟨Y,rfl,Y,cC nofun ⟨Y,rfl,Y,cC nofun ⟨Y,rfl,Y,jd ?_⟩⟩⟩⟩⟩;refine⟨Y,x,d',Y,hx,rfl,Y,d,K,V,cY.of hd,vJ,Y,d,K,V,cY.of hd,A0,Y,d,K,V,cY.of hd,A1,Y,d,K,V,cY.of hd,RQ,U,x,pe,aB,aI,nW,bO,s,a,b,t,rows,rfl,LB,hl,l1,l2,l3,jN is,⟨Q,Q⟩,⟨Q,Q⟩,⟨Q,Q⟩,is,⟨sh,sn,mv,λes oH=>?_⟩⟩;rw[jL is]at oH;cases oH;exact⟨B,λU' H' L' fr=>k U' H' _ one L' fr⟩
 | UW t p s a b =>
  obtain⟨it,ip,is,i3⟩:=ok;exists Y,d,K,V,cY.of hd,uQ;refine⟨Y,rfl,Y,cC nofun ⟨Y,rfl,Y,cC nofun ⟨Y,rfl,Y,cC nofun ⟨Y,rfl,Y,cC nofun ⟨Y,rfl,Y,cC nofun ⟨Y,rfl,Y,jd ?_⟩⟩⟩⟩⟩⟩;refine⟨Y,x,d',Y,hx,rfl,Y,d,K,V,cY.of hd,vJ,Y,d,K,V,cY.of hd,A0,Y,d,K,V,cY.of hd,A1,Y,d,K,V,cY.of hd,RQ,Y,d,K,V,cY.of hd,ZA,U,x,pe,aB,aI,nW,bO,t,p,s,a,b,rows,rfl,LB,hl,l1,l2,l3,jN it,Xy it ip.1 ip.2,jN is,Xy is i3.1 (by have:=i3.2.1;have:=i3.2.2;lia),Xy is (by have:=i3.2.1;have:=i3.1;lia) i3.2.2,it,is,⟨sh,sn,i3,⟨ip,λes oH=>?_⟩⟩⟩;rw[jL it]at oH;cases oH;exact⟨B,λU' H' L' fr=>k U' H' _ one L' fr⟩
 | win t p s =>
  obtain⟨it,ip,is⟩:=ok;exists Y,d,K,V,cY.of hd,uQ;refine⟨Y,rfl,Y,cC nofun ⟨Y,rfl,Y,cC nofun ⟨Y,rfl,Y,cC nofun ⟨Y,rfl,Y,cC nofun ⟨Y,rfl,Y,cC nofun ⟨Y,rfl,Y,cC nofun ⟨Y,rfl,Y,jd ?_⟩⟩⟩⟩⟩⟩⟩;refine⟨Y,x,d',Y,hx,rfl,Y,d,K,V,cY.of hd,vJ,Y,d,K,V,cY.of hd,A0,Y,d,K,V,cY.of hd,A1,U,x,pe,aB,aI,nW,bO,t,p,s,rows,rfl,LB,hl,l1,l2,l3,jN it,Xy it ip.1 ip.2,jN is,it,is,⟨sh,sn,ip,λes oH=>?_⟩⟩;rw[jL it]at oH;cases oH;exact⟨B,λU' H' L' fr=>k U' H' _ one L' fr⟩
 | fix s =>
  exists Y,d,K,V,cY.of hd,uQ;refine⟨Y,rfl,Y,cC nofun ⟨Y,rfl,Y,cC nofun ⟨Y,rfl,Y,cC nofun ⟨Y,rfl,Y,cC nofun ⟨Y,rfl,Y,cC nofun ⟨Y,rfl,Y,cC nofun ⟨Y,rfl,Y,cC nofun ⟨Y,rfl,Y,jd ?_⟩⟩⟩⟩⟩⟩⟩⟩;refine⟨Y,x,d',Y,hx,rfl,Y,d,K,V,cY.of hd,vJ,U,x,pe,aB,aI,nW,bO,s,rows,rfl,LB,hl,l1,l2,l3,jN ok,ok,⟨sh,sn,B,λU' H' L' fr=>k U' H' _ one L' fr⟩⟩
class inductive Gw
 | mk (l c w:Addr) (W:Addr->Prop) (aI:iN) (pq:iS) (rq:cO) (_:vs=[.ref l,.ref w]) (_:dB H l c) (_:Wo W H w aI pq rq) (_:(∀ a,W a->a≠l/\a≠c)) (_:aI.length<=50000) (_ :
 ∀ (r:Addr) (row:Row) (H':Hp),row.length<=2->ck H' r row->(∀ p∈row,0<=p.1/\p.1<p.2/\p.2<=aI.length/\p.2<=p.1+40)->H r=none->dB H' l c->cB l H H'->Q (.ref r) H')
theorem gw:aH ["_law_src_here","_law_world_here","_law_many","_law_row","_law_k","_law_start","_law_span"] ["_law_src_here","_law_world_here"] (aA oq):=fc
theorem rZ:‹(2,87,["_law_src_here","_law_world_here"],Gw)›:=λD=>by
 have bW:bq P w K mg zt cM 1 _ _ XN uJ:=fY D;specialize fG D.Sd.F gw;obtain⟨l,c,w,W,aI,pq,rq,rfl,S,wo,dw,b1,k⟩:=h;have hu:=gT hr;exists _,(aj (aU (i:=2) gw.nd (fX D.T.fj (ie hu (pv 1) bH))) (aj (aU (i:=3) gw.nd (bM ah)) (aj (dN PassesOwn.never rfl (gJ rfl D.T.jc (aa (bx Hg (aC D.yd bW hr (aa (pv 0) (aa ay ah))) (b9 (oQ rfl) rfl D.T.Fo PyProof.Rows.boot_min (aa ay (aa (pv 2) ah)))) ah)) (b8 (i:=4) gw.nd) (aj (aU (i:=5) gw.nd (aC D.yd bW hr (aa (pv 0) (aa (b9 (mj rfl) rfl D.T.zV PyProof.Rows.boot_max (aa ay (aa (pv 2) ah))) ah)))) (aj (aU (i:=6) gw.nd (bx dD ay (aC D.yd bW hr (aa (pv 0) (aa (b9 (mj rfl) rfl D.T.zV PyProof.Rows.boot_max (aa ay (aa (b9 (oQ rfl) rfl D.T.Fo PyProof.Rows.boot_min (aa (aP bG (bM (aa ay (aa ay (aa ay (aa ay ah))))) (aC D.yd bW hr (aa (pv 0) (aa ay ah)))) (aa (bx cQ (pv 2) (pv 5)) ah))) ah))) ah))))) (au (aT (dX qC jX jY bU (pv 3) (aa (cJ (aa (pv 5) (aa (bx dD (pv 5) (pv 6)) ah))) ah))))))) (au (aN (pv 3))))));obtain⟨ik,rw,ps,vl,wu⟩:=id wo;obtain⟨as,Ge,pa⟩:=id wu.hi;have la:=Paired.length pa;have zi:=jD.k (k:=kI) wu.hw;rw[show cI (vf ik rw ps vl) kI=some (.ref ik) by kernel_rfl]at zi;exists Y,w,Y,zi,ik,Y,.inl (bI.of Ge);refine⟨iG,λr ye=>?_⟩;have s1:=ak ye (.lst []);have r1:(aM H r (.lst [])) r=some (.lst []):=af;have nr:=S.ne ye;have S1:=S.same s1;generalize aM H r (.lst [])=H1 at s1 r1 S1;refine⟨Y,l,c,3,rfl,S1,E,E,λv H2 v0 v1 S2 k2=>?_⟩;rw[show (as.map V.ref).length=aI.length by rw[cz,la]];exists Y,P,rfl,Z,.inl ⟨Q,Q⟩
 have hm:∃ n:Nat,(v*(if (aI.length:Int)<1 then (aI.length:Int) else 1))=n/\n<=2/\(0<n->1<=aI.length):=by
  split
  ·rename_i z;refine⟨0,?_,Q,Q⟩;rw[show (aI.length:Int)=0 by lia];exact Int.mul_zero _
  ·exact⟨v.toNat,by rw[Int.mul_one];lia,Q,λ_=>by lia⟩
 obtain⟨n,en,n2,n1⟩:=hm
 have hM:(if (aI.length:Int) > 1 then (aI.length:Int) else 1)=if 1<=aI.length then (aI.length:Int) else 1:=by split <;> split <;> lia
 refine⟨n,congrArg (λz=>[V.int z]) en,Q,Q,jZ (lo:=0) (n:=((n:Nat):Int).toNat) (λj σ H3=>∃ (u4 u5 u6:Option V) (row:Row),σ=[some (.ref l),some (.ref w),some (.int (aI.length:Nat)),some (.ref r),u4,u5,u6]/\ck H3 r row/\row.length=j/\(∀ p∈row,0<=p.1/\p.1<p.2/\p.2<=aI.length/\p.2<=p.1+40)/\dB H3 l c/\cB l H H3) ⟨none,none,none,[],rfl,⟨[],(k2 r nr.1.symm).trans r1,.nil⟩,rfl,(λp hp=>nomatch hp),S2,(gx.aK.keep s1).trans (bY k2)⟩ ?_ ?_⟩
 ·rintro j σ H3 hj ⟨u4,u5,u6,row,rfl,R3,lr,hp,S3,K3⟩;have hk:1<=aI.length:=n1 ∅;rw[if_pos hk]at hM;refine⟨Y,Y,P,rfl,l,c,Y,S3,(by rw[hM];lia),(by rw[hM];lia),λa H4 a0 a1 S4 k4=>?_⟩;rw[hM]at a1;refine⟨Y,Dp,λt ht=>?_⟩;have s5:=ak ht (.lst [.int 4,.int 4,.int 4,.int 40]);have h5:(aM H4 t (.lst [.int 4,.int 4,.int 4,.int 40])) t=some (.lst [.int 4,.int 4,.int 4,.int 40]):=af;have nt:=S4.ne ht;have S5:=S4.same s5;generalize aM H4 t (.lst [.int 4,.int 4,.int 4,.int 40])=H5 at s5 h5 S5;refine⟨Y,l,c,4,rfl,S5,E,E,λi H6 i0 i1 S6 k6=>?_⟩;obtain⟨z,hz,ez⟩:=Gg (xs:=[V.int 4,.int 4,.int 4,.int 40]) i0 (by show i<4;lia)
  obtain⟨q,rfl,q0,q1⟩:∃ q:Int,z=.int q/\4<=q/\q<=40:=by
   rcases List.mem_cons.mp hz with y|hz
   ·exact⟨4,y,E,E⟩
   rcases List.mem_cons.mp hz with y|hz
   ·exact⟨4,y,E,E⟩
   rcases List.mem_cons.mp hz with y|hz
   ·exact⟨4,y,E,E⟩
   ·exact⟨40,List.mem_singleton.mp hz,E,E⟩
  exists t,K,V,bI.of ((k6 t nt.1.symm).trans h5),ez
  have hX:∃ x:Int,(if (if (aI.length:Int)-a<q then (aI.length:Int)-a else q) > 1 then (if (aI.length:Int)-a<q then (aI.length:Int)-a else q) else 1)=x/\1<=x/\x<=aI.length-a/\x<=40:=⟨Y,by split <;> split <;> lia,by split <;> split <;> lia,by split <;> split <;> lia⟩
  obtain⟨M,eM,M1,M2,M3⟩:=hX;refine⟨Y,Y,Z,P,rfl,P,rfl,l,c,Y,S6,(by rw[eM];lia),(by rw[eM];lia),λb H7 b0 b1 S7 k7=>⟨Z,?_⟩⟩;rw[eM]at b1;have K7:cB l H3 H7:=(((bY k4).trans (gx.aK.keep s5)).trans (bY k6)).trans (bY k7);obtain⟨bs,hb,pb⟩:=R3;obtain⟨ls,hl⟩:=S3.lst;have hb7:=K7 _ _ hb nr.1.symm;have pb7:bg H7 bs row:=pb.tups λa xs e=>K7 _ _ e (cV e hl);have lb:=Paired.length pb;refine⟨Y,.inl ⟨rfl,_,bI.of hb7⟩,Y,Y,Y,Z,lF,λp Uj=>⟨r,Z,ak Uj _ _ _ hb7,(by rw[cz];exact aR ∅),?_⟩⟩;have sp:=ak Uj (.tup [.int a,.int (a+(1+b))]);have p8:(aM H7 p (.tup [.int a,.int (a+(1+b))])) p=some (.tup [.int a,.int (a+(1+b))]):=af;have hb8:=sp _ _ hb7;have S8:=S7.same sp;have K8:cB l H (aM H7 p (.tup [.int a,.int (a+(1+b))])):=(K3.trans K7).trans (gx.aK.keep sp);have pb8:=bg.snoc (p:=(a,a+(1+b))) (pb7.same sp) p8;refine⟨K,row++[(a,a+(1+b))],rfl,⟨bs++[p],by rw[gy];exact af,pb8.tups λy xs e=>?_⟩,by rw[cP,lr];rfl,λy hy=>?_,?_,λy ob e n=>?_⟩
  ·exact (aJ (cV e hb8)).trans e
  ·rcases List.mem_append.mp hy with hy|hy
   ·exact hp y hy
   ·rw[List.mem_singleton.mp hy];exact⟨a0,by show a<a+(1+b);lia,by show a+(1+b)<=_;lia,by show a+(1+b)<=a+40;lia⟩
  ·obtain⟨n,ns,i,d,r',e1,e2,h3⟩:=S8;exact⟨n,ns,i,d,r',(aJ nr.1).trans e1,(aJ nr.2).trans e2,h3⟩
  ·exact (aJ (az e ye)).trans (K8 _ _ e n)
 rintro σ H3 ⟨u4,u5,u6,row,rfl,R3,lr,hp,S3,K3⟩;exact⟨Y,k r row H3 ∅ R3 hp ye S3 K3⟩
class inductive Qk
 | mk (l c:Addr) (s m:Int) (_:vs=[.ref l,.int s,.int m]) (_:dB H l c) (_:0<=m) (_:m<=10000) (_:∀ (a b u:Int) (t:Addr) (dd:LD) (H':Hp),Mv a b u m->(dd=.cut s a b\/dd=.Tr s a b u)->dd.At H' t->dB H' l c->cB l H H'->Q (.ref t) H')
theorem nA:aH ["_law_src_here","_law_sheet","_law_room","_law_start","_law_stop"] ["_law_src_here","_law_sheet","_law_room"] (aA ou):=fc
theorem AE:‹(2,88,["_law_src_here","_law_sheet","_law_room"],Qk)›:=λD=>by
 have bW:bq P w K mg zt cM 1 _ _ XN uJ:=fY D;refine fG D.aah.F nA λdm A zn s0 H vs Q E hr h=>?_;obtain⟨l,c,s,m,rfl,S,m0,m1,k⟩:=h;exists _,(aj (aU (i:=3) nA.nd (aC D.yd bW hr (aa (pv 0) (aa (bx dD (pv 2) ay) ah)))) (aj (aU (i:=4) nA.nd (bx dD (pv 3) (aC D.yd bW hr (aa (pv 0) (aa (bx dD (bx cQ (pv 2) (pv 3)) ay) ah))))) (aj (bP (aV dR (aC D.yd bW hr (aa (pv 0) (aa ay ah))) ay (bh _)) (au (aN (cJ (aa bH (aa (pv 1) (aa (pv 3) (aa (pv 4) ah))))))) bf) (au (aN (cJ (aa bH (aa (pv 1) (aa (pv 3) (aa (pv 4) (aa (aC D.yd bW hr (aa (pv 0) (aa (bx dD (bx dD (bx cQ (pv 2) (pv 4)) (pv 3)) ay) ah))) ah)))))))))));refine⟨Y,Y,Z,l,c,Y,S,Q,Q,λa H1 a0 a1 S1 k1=>?_⟩;refine⟨Y,Y,Y,Y,Z,Z,l,c,Y,S1,Q,Q,λv H2 v0 v1 S2 k2=>⟨Z,?_⟩⟩;refine⟨Y,l,c,2,rfl,S2,E,E,λz H3 _ _ S3 k3=>⟨rfl,Y,?_⟩⟩;have K3:cB l H H3:=((bY k1).trans (bY k2)).trans (bY k3);refine cW (λ_=>?_) (λ_=>?_)
 ·refine⟨Y,Y,Y,Dp,λt ht=>?_⟩;exact k a (a+v) 0 t (.cut s a (a+v)) _ ⟨⟨Q,Q,Q⟩,Q,Q⟩ (.inl rfl) af (S3.same (ak ht _)) (K3.trans (gx.aK.keep (ak ht _)))
 ·refine⟨Y,Y,Y,Y,Y,Y,Z,Y,Z,Z,l,c,Y,S3,Q,Q,λu H4 u0 u1 S4 k4=>⟨Ws,λt ht=>?_⟩⟩;exact k a (a+v) u t (.Tr s a (a+v) u) _ ⟨⟨Q,Q,Q⟩,Q,Q⟩ (.inr rfl) af (S4.same (ak ht _)) ((K3.trans (bY k4)).trans (gx.aK.keep (ak ht _)))
def LD.New(H:Hp):LD->Prop
 | .put _ _ r _=>H r=none
 | _=>True
class inductive Ql
 | mk (W:Addr->Prop) (l c w:Addr) (aI:iN) (pq:iS) (rows:cO) (sh:Int->List Int) (_:vs=[.ref l,.ref w]) (_:dB H l c) (_:Wo W H w aI pq rows) (_:∀ a,W a->a≠l/\a≠c) (_:Gd aI.length rows sh) (_:1<=rows.length) (_:aI.length<=10000) (_:∀ (t:Addr) (dd:LD) (H':Hp),dd.At H' t->dd.Ok aI.length rows.length sh->dd.New H->dB H' l c->cB l H H'->Q (.ref t) H')
theorem gc:aH ["_law_src_here","_law_world_here","_law_rows","_law_way","_law_sheet","_law_other","_law_room","_law_place","_law_start"] ["_law_src_here","_law_world_here"] (aA uG):=fc
theorem Gx:‹(43,89,["_law_src_here","_law_world_here"],Ql)›:=λD=>by
 have bW:bq P w K mg zt cM 1 _ _ XN uJ:=fY D;refine fG D.aai.F gc λdm A zn s0 H vs Q E hr h=>?_;obtain⟨W,l,c,w,aI,pq,rows,sh,rfl,S,wo,dw,g,r1,i1,k⟩:=h;have hu:=gT hr;exists _,(aj (aU (i:=2) gc.nd (ie hu (pv 1) bH)) (aj (aU (i:=3) gc.nd (aC D.yd bW hr (aa (pv 0) (aa ay ah)))) (aj (aU (i:=4) gc.nd (aC D.yd bW hr (aa (pv 0) (aa (fX D.T.fj (pv 2)) ah)))) (aj (aU (i:=5) gc.nd (aC D.yd bW hr (aa (pv 0) (aa (fX D.T.fj (pv 2)) ah)))) (aj (aU (i:=6) gc.nd (fX D.T.fj (aC D.Ft (iz D 41) hr (aa (pv 2) (aa (pv 4) ah))))) (aj (aU (i:=7) gc.nd (aC D.yd bW hr (aa (pv 0) (aa (bx dD (pv 6) ay) ah)))) (aj (bP (aV mJ (pv 3) ay (bh _)) (au (aN (cJ (aa bH (aa (pv 4) (aa (pv 7) (aa (aC D.Sd (rZ D) hr (aa (pv 0) (aa (pv 1) ah))) ah))))))) bf) (aj (bP (aV mJ (pv 3) ay (bh _)) (au (aN (aC D.aah (AE D) hr (aa (pv 0) (aa (pv 4) (aa (pv 6) ah)))))) bf) (aj (bP (aV mJ (pv 3) ay (bh _)) (aj (aU (i:=6) gc.nd (fX D.T.fj (aC D.Ft (iz D 41) hr (aa (pv 2) (aa (pv 5) ah))))) (aj (aU (i:=8) gc.nd (aC D.yd bW hr (aa (pv 0) (aa (bx dD (pv 6) ay) ah)))) (au (aN (cJ (aa bH (aa (pv 4) (aa (pv 7) (aa (pv 5) (aa (pv 8) (aa (bx dD (pv 8) (aC D.yd bW hr (aa (pv 0) (aa (bx dD (bx cQ (pv 6) (pv 8)) ay) ah)))) ah))))))))))) bf) (aj (bP (aV mJ (pv 3) ay (bh _)) (au (aN (cJ (aa bH (aa (pv 4) (aa (pv 7) (aa (pv 5) ah))))))) bf) (au (aN (cJ (aa bH (aa (pv 4) ah)))))))))))))));obtain⟨ik,kZ,ps,vl,wu⟩:=id wo;have zr:=jD.k (k:=kR) wu.hw;rw[show cI (vf ik kZ ps vl) kR=some (.ref kZ) by kernel_rfl]at zr;have l40:=g.ln;obtain⟨rk,rb,dn⟩:=id g.sn.rk;obtain⟨ls,hls⟩:=S.lst;have kp:∀ {H1:Hp},cB l H H1->ic (λ_=>False) H1 kZ rows/\Wo W H1 w aI pq rows:=λ{H1} K1=>⟨(wu.hr.fr (λ_ z=>z) λa xs e wa _ _=>K1 _ _ e (dw a wa).1).at_,wo.fr (λa ob e z=>K1 _ _ e (dw a z).1) λa xs e=>K1 _ _ e (cV e hls)⟩
 have lv:∀ {H1:Hp},cB l H H1->∃ xs,H1 kZ=some (.lst xs)/\xs.length=rows.length:=λ{H1} K1=>by
  obtain⟨xs,e,al⟩:=(kp K1).1;exact⟨xs,e,al.len⟩
 exists Y,w,Y,zr;refine⟨Y,l,c,13,rfl,S,E,E,λy H1 y0 y1 S1 k1=>?_⟩;have K1:cB l H H1:=bY k1;obtain⟨x1,e1,n1⟩:=lv K1;refine⟨Y,Y,kZ,Y,.inl (bI.of e1),l,c,Y,S1,Q,Q,λs H2 a0 a1 S2 k2=>?_⟩;have K2:cB l H H2:=K1.trans (bY k2);obtain⟨x2,e2,n2⟩:=lv K2;refine⟨Y,Y,kZ,Y,.inl (bI.of e2),l,c,Y,S2,Q,Q,λo H3 o0 o1 S3 k3=>?_⟩;have K3:cB l H H3:=K2.trans (bY k3);have is:sS rows.length s:=⟨a0,Q⟩;have io:sS rows.length o:=⟨o0,Q⟩;have ls:=g.sl s is.1 is.2;have lo:=g.sl o io.1 io.2;refine⟨Y,Y,_,kZ,rows,s,sh,rk,rfl,(kp K3).1,Q,g.sn.sd,is.1,is.2,g.sn.ss,g.sn.ln,dn,by have:=rb s;lia,λq H4 hq s4 fq=>⟨q,Y,.inl (bI.of hq),?_⟩⟩;rw[cz];have K4:cB l H H4:=K3.trans (gx.aK.keep s4);refine⟨Y,Y,Z,l,c,Y,S3.same s4,Q,Q,λp H5 p0 p1 S5 k5=>?_⟩;have K5:cB l H H5:=K4.trans (bY k5);have ip:0<=p/\p<=(sh s).length:=⟨p0,Q⟩;refine⟨Y,Z,Y,cW (λ_=>?_) (λ_=>?_)⟩
 ·refine⟨Y,Y,Y,Y,l,c,w,W,aI,pq,rows,rfl,S5,(kp K5).2,dw,Q,λr row H6 r2 Qh hq fr S6 K6=>⟨Dp,λt ht=>?_⟩⟩;have st:=ak ht (.tup [.str "put",.int s,.int p,.ref r]);refine k t (.put s p r row) _ ⟨af,Qh.same st⟩ ⟨is,ip,r2,hq⟩ ?_ (S6.same st) ((K5.trans K6).trans (gx.aK.keep st));show H r=none
  cases e:H r with
  | none=>rfl
  | some ob =>
   exfalso;by_cases n:r=l
   ·obtain⟨_,hl5⟩:=S5.lst;rw[n,hl5]at fr;cases fr
   ·rw[K5 _ _ e n]at fr;cases fr
 refine⟨Y,Z,Y,cW (λ_=>?_) (λ_=>?_)⟩
 ·refine⟨Y,Y,Y,l,c,s,Y,S5,Q,Q,λa b u t dd H6 mv hdd Xz S6 K6=>k t dd H6 Xz ?_ ?_ S6 (K5.trans K6)⟩
  ·rcases hdd with rfl|rfl
   ·exact⟨is,mv.1⟩
   ·exact⟨is,mv⟩
  ·rcases hdd with rfl|rfl <;> trivial
 refine⟨Y,Z,Y,cW (λ_=>?_) (λ_=>?_)⟩
 ·refine⟨Y,Y,_,kZ,rows,o,sh,rk,rfl,(kp K5).1,Q,g.sn.sd,io.1,io.2,g.sn.ss,g.sn.ln,dn,by have:=rb o;lia,λq6 H6 hq6 s6 fq6=>⟨q6,Y,.inl (bI.of hq6),?_⟩⟩;rw[cz];refine⟨Y,Y,Z,l,c,Y,S5.same s6,Q,Q,λa H7 b0 b1 S7 k7=>?_⟩;refine⟨Y,Y,Y,Y,Y,Y,Y,Y,Z,Z,l,c,Y,S7,Q,Q,λv H8 v0 v1 S8 k8=>⟨Z,Zz,λt ht=>?_⟩⟩;have st:=ak ht (.tup [.str "quote",.int s,.int p,.int o,.int a,.int (a+v)]);exact k t (.UW s p o a (a+v)) _ af ⟨is,ip,io,Q,Q,Q⟩ trivial (S8.same st) ((((K5.trans (gx.aK.keep s6)).trans (bY k7)).trans (bY k8)).trans (gx.aK.keep st))
 refine⟨Y,Z,Y,cW (λ_=>?_) (λ_=>?_)⟩
 ·refine⟨Y,Y,Y,Dp,λt ht=>?_⟩;have st:=ak ht (.tup [.str "window",.int s,.int p,.int o]);exact k t (.win s p o) _ af ⟨is,ip,io⟩ trivial (S5.same st) (K5.trans (gx.aK.keep st))
 ·refine⟨Y,lF,λt ht=>?_⟩;have st:=ak ht (.tup [.str "fix",.int s]);exact k t (.fix s) _ af is trivial (S5.same st) (K5.trans (gx.aK.keep st))
theorem Tz{H3 H7:Hp}{t:Addr}{h:Int}{cs:List Nat}{i ch:Nat}{bs:List Addr}(cT:H3 acc=none)(hi:cs[i]?=some ch)(hb:H7 acc=some (.lst (bs.map V.ref)))(pb:Paired (KD H7) bs (pB h (cs.take i)))(s7:aK H3 H7)(ht:H7 t=none):(aM (aM H7 t (.tup [.int h,Ce ch])) acc (.lst (bs.map V.ref++[.ref t]))) acc=some (.lst ((bs++[t]).map V.ref))/\Paired (KD (aM (aM H7 t (.tup [.int h,Ce ch])) acc (.lst (bs.map V.ref++[.ref t])))) (bs++[t]) (pB h (cs.take (i+1)))/\aK H3 (aM (aM H7 t (.tup [.int h,Ce ch])) acc (.lst (bs.map V.ref++[.ref t]))):=by
 refine⟨?_,?_,λb ob e=>?_⟩
 ·rw[af,gy];rfl
 ·have nta:t≠acc:=(az hb ht).symm;rw[take_snoc hi];unfold pB;rw[gy];refine DT (Paired.CH pb λa q e=>?_) ?_
  ·show aM _ acc _ a=_;rw[aJ (cV e hb)];exact ak ht _ _ _ e
  ·show aM _ acc _ t=_;rw[aJ nta];exact af
 ·rw[aJ (az e cT)];exact ak ht _ _ _ (s7 _ _ e)
class inductive ML(C CS CW CB:Addr)
 | mk (l c w x:Addr) (U W:Addr->Prop) (pe:iS) (rows:cO) (pq:iS) (rq:cO) (aB:iT) (aI:iN) (nW:Nat) (bO:Row) (_:vs=[.ref l,.ref w,.ref x]) (_:qK C CS CW CB H l c w x U W pe rows pq rq aB aI nW bO) (_:pe.length<=800) (_:pq.length<=800) (_:rows.length<=50) (_:aB.length<=800) (_:aI.length<=50000) (_:nW<=800) (_ :
 ∀ (U':Addr->Prop) (H':Hp) (h:Int) (cs:List Nat) (dG:iT),cs.length<=60->qI h->dG.length=aB.length+1->qK C CS CW CB H' l c w x U' W (pe++[rows]) rows (pq++[rq]) rq dG (aI++pB h cs) (nW+1) bO->IU l U W U' W H H'->Q (.bl true) H')
def lpT:TS:=λD σ H=>∃ (l c:Addr) (s1 s2 s3 s4 s6:Option V) (h:Int),σ=[some (.ref l),s1,s2,s3,s4,some (.int h),s6]/\dB H l c/\qI h/\∀ (h':Int) (H':Hp),qI h'->dB H' l c->(∀ a,a≠l->H' a=H a)->D.nx [some (.ref l),s1,s2,s3,s4,some (.int h'),s6] H'
theorem ju:aH ["_law_src_here","_law_world_here","_law_house","_law_many","_law_text_here","_law_hand","_law_start"] ["_law_src_here","_law_world_here","_law_house"] (aA pY):=fc
theorem Gy:‹(5,90,["_law_src_here","_law_world_here","_law_house"],(ML C CS CW CB))›:=λD=>by
 have bW:bq P w K mg zt cM 1 _ _ XN uJ:=fY D;specialize fG D.aaj.F ju;obtain⟨l,c,w,x,U,W,pe,rows,pq,rq,aB,aI,nW,bO,rfl,St,b1,b1',b2,b3,b4,b5,k⟩:=h;have hu:=gT hr;refine⟨_,(aj (aU (i:=3) ju.nd (aP bG (bM (aa ay (aa ay (aa ay (aa ay (aa ay ah)))))) (aC D.yd bW hr (aa (pv 0) (aa ay ah))))) (aj (aU (i:=4) ju.nd (aC D.aad (Gb D) hr (aa (pv 0) (aa (aC D.yd bW hr (aa (pv 0) (aa (bx dD (pv 3) ay) ah))) ah)))) (aj (aU (i:=5) ju.nd (aC D.yd bW hr (aa (pv 0) (aa ay ah)))) (aj (HP (t':=lpT) (bP (aV dR (aC D.yd bW hr (aa (pv 0) (aa ay ah))) ay (bh _)) (au (aU (i:=5) ju.nd (aC D.yd bW hr (aa (pv 0) (aa (bx Np ay ay) ah))))) bf) ?b3) (aj (aU (i:=6) ju.nd (fX D.T.fj (ie hu (pv 1) bH))) (aj (aT (dX qC PySem.F.slot_list_extend PySem.F.type_list_extend j0 (ie hu (pv 1) bH) (aa (gZ (N:=["_law_sign_here","_law_hand"]) (nL (sc:=aA pY) (NX:=["_law_src_here","_law_world_here","_law_house","_law_many","_law_text_here","_law_hand","_law_start"]) (jx:=[none,some 5]) rfl rfl rfl nofun nofun rfl nofun rfl nofun) rfl (Wq (pv 4)) (λ_ _ _ _ _ _=>(b8 (i:=0) (show List.Nodup (["_law_sign_here","_law_hand"]:List Str) by decide +kernel))) (λ_ _ _ _ _ _=>jb) (λ_ _ _ _ _ _=>(cJ (aa (pv 1) (aa (pv 0) ah))))) ah))) (aj (aT (aC D.R0 (rV D) hr (aa (pv 1) (aa (ie hu (pv 1) bH) ah)))) (au (aN (aC D.Wu (nP D 2) hr (aa (cL (pv 2) D.aO D.RY (qx D) hr bN (aa (pv 5) (aa (pv 4) ah))) (aa (cJ (aa (pv 6) (aa (bx dD (pv 6) (b9 vt rfl D.T.fj PySem.boot_len (aa (pv 4) ah))) ah))) ah)))))))))))),?_⟩
 case b3 =>
  rintro D σ H ⟨l,c,s1,s2,s3,s4,s6,h,rfl,S,fh,k⟩;refine⟨Y,l,c,4,rfl,S,E,E,λv H1 v0 v1 S1 k1=>⟨rfl,Y,cW (λ_=>?_) (λ_=>k h H1 fh S1 k1)⟩⟩;refine⟨Y,Z,⟨E,E,E⟩,l,c,Y,S1,E,E,λv2 H2 q0 q1 S2 k2=>?_⟩;rw[show (10:Int)^(59:Int).toNat=10^59 from rfl]at q1;exact k v2 H2 ⟨q0,Int.lt_trans q1 (by decide)⟩ S2 λy hy=>(k2 y hy).trans (k1 y hy)
 refine⟨Ws,λt ht=>?_⟩;have s1:=ak ht (.lst [.int 1,.int 3,.int 5,.int 8,.int 60]);have h1:(aM H t (.lst [.int 1,.int 3,.int 5,.int 8,.int 60])) t=some (.lst [.int 1,.int 3,.int 5,.int 8,.int 60]):=af;have nt:=St.src.ne ht;generalize aM H t (.lst [.int 1,.int 3,.int 5,.int 8,.int 60])=H1 at s1 h1;have G1:=St.same s1;refine⟨Y,l,c,5,rfl,G1.src,E,E,λi H2 i0 i1 S2 k2=>?_⟩;have Yn:=G1.mv (bY k2) S2;obtain⟨z,hz,ez⟩:=Gg (xs:=[V.int 1,.int 3,.int 5,.int 8,.int 60]) i0 (by show i<5;lia)
 obtain⟨tn,rfl,M7,X9⟩:∃ j:Int,z=.int j/\0<=j/\j<=60:=by
  have key:∀ y∈[V.int 1,.int 3,.int 5,.int 8,.int 60],∃ j:Int,y=.int j/\0<=j/\j<=60:=by
   intro y hy;rcases List.mem_cons.mp hy with q|hy
   ·exact⟨1,q,E,E⟩
   rcases List.mem_cons.mp hy with q|hy
   ·exact⟨3,q,E,E⟩
   rcases List.mem_cons.mp hy with q|hy
   ·exact⟨5,q,E,E⟩
   rcases List.mem_cons.mp hy with q|hy
   ·exact⟨8,q,E,E⟩
   ·exact⟨60,List.mem_singleton.mp hy,E,E⟩
  exact key z hz
 exists t,K,V,bI.of ((k2 t nt.1.symm).trans h1),ez;refine⟨Y,Y,Y,Z,l,c,Y,S2,Q,Q,λm H3 m0 m1 S3 k3=>?_⟩;have Yo:=Yn.mv (bY k3) S3;refine⟨l,c,m.toNat,by rw[show ((m.toNat:Nat):Int)=m by lia];rfl,S3,Q,λcs H4 Q0 S4 K4=>?_⟩;have TF:=Yo.mv K4 S4;refine⟨Y,l,c,3,rfl,S4,E,E,λh0 H5 p0 p1 S5 k5=>?_⟩;have UY:=TF.mv (bY k5) S5;refine⟨l,c,K,P,h0,rfl,S5,⟨p0,Q⟩,λh H6 fh S6 k6=>?_⟩;have wD:=UY.mv (bY k6) S6;have K16:cB l H H6:=((((((gx.aK.keep s1).trans (bY k2)).trans (bY k3)).trans K4).trans (bY k5)).trans (bY k6));obtain⟨ik,rw,ps,vl,wu⟩:=id wD.wo;obtain⟨as,Ge,pa⟩:=id wu.hi;have la:=Paired.length pa;have zi:=jD.k (k:=kI) wu.hw;rw[show cI (vf ik rw ps vl) kI=some (.ref ik) by kernel_rfl]at zi;exists Y,w,Y,zi,ik,Y,.inl (bI.of Ge);refine⟨Y,w,Y,zi,.inl ⟨rfl,_,bI.of Ge⟩,Y,cs,rfl,λacc cT=>LV (λj σ H7=>∃ (u:Option V) (bs:List Addr),σ=[u,some (.int h)]/\H7 acc=some (.lst (bs.map V.ref))/\Paired (KD H7) bs (pB h (cs.take j))/\aK H6 H7) ⟨none,[],rfl,af,.nil,ak cT _⟩ ?_ ?_⟩
 ·rintro j ch σ H7 hj ⟨u,bs,rfl,ha,pb,s7⟩;have lb:=Paired.length pb;rw[sU,gB]at lb;refine⟨Y,Y,lF,λt ht=>⟨_,ak ht _ _ _ ha,(by rw[cz];exact aR ∅),_,bs++[t],rfl,Tz cT hj ha pb s7 ht⟩⟩
 rintro σ H7 ⟨u,bs,rfl,ha,pb,s7⟩;rw[gQ]at pb;have lb:=Paired.length pb;rw[sU]at lb;have abd:=s7 _ _ Ge;refine⟨ik,acc,Z,abd,ha,(by rw[cz,cz];exact gM (aR ∅)),?_⟩;rw[← gy];have k8:cB ik H7 (aM H7 ik (.lst ((as++bs).map V.ref))):=aG ik _ _;have i8:(aM H7 ik (.lst ((as++bs).map V.ref))) ik=some (.lst ((as++bs).map V.ref)):=af;generalize aM H7 ik (.lst ((as++bs).map V.ref))=H8 at k8 i8;have Qm:∀ a ob,H6 a=some ob->a≠ik->H8 a=some ob:=λa ob e n=>k8 _ _ (s7 _ _ e) n;have t68:∀ a xs,H6 a=some (.tup xs)->H8 a=some (.tup xs):=λa xs e=>Qm _ _ e (cV e Ge);have Xk:∀ a xs,H7 a=some (.tup xs)->H8 a=some (.tup xs):=λa xs e=>k8 _ _ e (cV e abd);have w8:H8 w=some (.dK (vf ik rw ps vl)):=Qm _ _ wu.hw (cV wu.hw Ge);have hr8:Na W ik ps H8 rw rq:=wu.hr.fr (λ_ z=>z) λa xs e _ n _=>Qm _ _ e n
 have wo8:MF W H8 w ik rw ps vl (aI++pB h cs) pq rq:=by
  obtain⟨Xu,hp,al⟩:=wu.hp;refine⟨wu.ww,wu.wi,wu.wp,wu.wv,λa z=>?_,w8,⟨as++bs,i8,Bh (Paired.CH pa λa q e=>t68 _ _ e) (Paired.CH pb λa q e=>Xk _ _ e)⟩,hr8,⟨Xu,Qm _ _ hp wu.ne.symm,al.mono λv rs ⟨a,e,q⟩=>⟨a,e,q.fr (λ_ y=>y) λa xs e _ n _=>Qm _ _ e n⟩⟩,wu.ne,wu.lst,Qm _ _ wu.hv wu.nv.1,wu.nv⟩;by_cases e:a=ik
  ·rw[e];exact⟨_,i8⟩
  ·obtain⟨ob,e2⟩:=wu.al a z;exact⟨ob,Qm _ _ e2 e⟩
 have XA:=wD.GZ.fr (λa ob e z=>Qm _ _ e (λq=>(wD.du a z).1 (by rw[q];exact wu.wi))) t68
 have afi:dB H8 l c:=by
  obtain⟨n,ns,i,d,r,e1,e2,h3⟩:=S6;exact⟨n,ns,i,d,r,Qm _ _ e1 (λq=>(wD.dw ik wu.wi).1 q.symm),Qm _ _ e2 (λq=>(wD.dw ik wu.wi).2 q.symm),h3⟩
 have zr:=jD.k (k:=kR) w8;rw[show cI (vf ik rw ps vl) kR=some (.ref rw) by kernel_rfl]at zr;refine⟨Y,Y,w,Y,zr,W,w,rw,aI++pB h cs,pq,rq,rq,rfl,⟨ik,rw,ps,vl,wo8⟩,Q,λik' wC ⟨kZ,vl',e⟩=>?_,λH9 wo9 fr9 tp9 _=>?_⟩
 ·rw[w8]at e;simp only[Option.some.injEq,HO.dK.injEq,vf,List.cons.injEq,Prod.mk.injEq,V.ref.injEq,true_and,and_true]at e;obtain⟨rfl,rfl,rfl,rfl⟩:=e;exact hr8
 have abe:=XA.fr (λa ob e z=>fr9 _ _ e (wD.du a z).1) tp9
 have TH:dB H9 l c:=by
  obtain⟨n,ns,i,d,r,e1,e2,h3⟩:=afi;exact⟨n,ns,i,d,r,fr9 _ _ e1 (λq=>(wD.dw l q).1 rfl),fr9 _ _ e2 (λq=>(wD.dw c q).2 rfl),h3⟩
 obtain⟨S',UM,d',UA,Tw,Yi,Yj,Yk,Yl,Ym,Eo,Ep,dw',sg',ow',pw',db',tb',DS,LU⟩:=id abe;refine⟨Y,x,d',Y,LU.L.hx,rfl,Y,Y,U,x,pe,aB,aI,nW,bO,h,cs,rows,rfl,abe,fh,Q,Q,Q,wD.lst,b2,Q,Q,λU' q MV abf Gz hq=>?_⟩;refine⟨Y,Y,Y,fF cs,rfl,(by rw[qc];exact gM (aR ∅)),Z,lF,λt2 Ib=>?_⟩;refine⟨P,rfl,.inr ⟨false,q,t2,Z,ak Ib _ _ _ hq,af,rfl,λi u v eu ev=>?_⟩,λZq afk=>?_⟩
 ·match i,eu,ev with
  | 0,eu,ev =>
   cases eu;cases ev;rw[show (as.map V.ref).length=aI.length by rw[cz,la]];exact Eqv.int _
  | 1,eu,ev =>
   cases eu;cases ev;rw[show ((aI++pB h cs).length:Int)=((as.map V.ref).length:Int)+((fF cs).length:Int) by rw[cz,la,qc,cP,sU];lia];exact Eqv.int _
 have jU:aK MV Zq:=λa ob e=>afk _ _ (ak Ib _ _ _ e);have Xl:∀ a ob,H a=some ob->a≠l->¬ W a->H9 a=some ob:=λa ob e n z=>fr9 _ _ (Qm _ _ (K16 _ _ e n) (λq=>z (by rw[q];exact wu.wi))) z
 have f09:∀ a,H9 a=none->H a=none:=by
  intro a e
  cases ea:H a with
  | none=>rfl
  | some ob =>
   exfalso;by_cases n:a=l
   ·obtain⟨_,ns,i,d,r,e1,_⟩:=TH;rw[n,e1]at e;cases e
   by_cases z:W a
   ·obtain⟨ob,e2⟩:=wo9.al z;rw[e2]at e;cases e
   rw[Xl _ _ ea n z]at e;cases e
 have abg:dB Zq l c:=by
  obtain⟨n,ns,i,d,r,e1,e2,h3⟩:=TH;exact⟨n,ns,i,d,r,jU _ _ (Gz.2.1 _ _ e1 (λq=>(wD.du l q).2.1 rfl)),jU _ _ (Gz.2.1 _ _ e2 (λq=>(wD.du c q).2.2 rfl)),h3⟩
 refine k U' Zq h cs _ ∅ fh (by rw[cP];rfl) ⟨abg,abf.fr (λa ob e _=>jU _ _ e) (λa xs e=>jU _ _ e),(by simp),wo9.fr (λa ob e z=>jU _ _ (Gz.2.1 _ _ e (λy=>(wD.du a y).1 z))) (λa xs e=>jU _ _ (Gz.2.2 _ _ e)),λa z=>?_,wD.dw⟩ ⟨λa z=>z.elim (λz=>(Gz.1 a z).elim .inl λy=>.inr (.inr (f09 a y))) (λz=>.inr (.inl z)),λa ob e n y z=>jU _ _ (Gz.2.1 _ _ (Xl _ _ e n z) y),λa xs e=>?_⟩
 ·rcases Gz.1 a z with y|y
  ·exact wD.du a y
  ·refine⟨λz=>?_,λq=>?_,λq=>?_⟩
   ·obtain⟨ob,e2⟩:=wo9.al z;rw[e2]at y;cases y
   ·obtain⟨_,ns,i,d,r,e1,_⟩:=TH;rw[q,e1]at y;cases y
   ·obtain⟨_,ns,i,d,r,_,e1,_⟩:=TH;rw[q,e1]at y;cases y
 ·obtain⟨ls,hl⟩:=St.src.lst;exact jU _ _ (Gz.2.2 _ _ (tp9 _ _ (t68 _ _ (K16 _ _ e (cV e hl)))))
class inductive IZ(C CS CW CB:Addr)
 | mk (l c w x:Addr) (U W:Addr->Prop) (pe:iS) (rows:cO) (pq:iS) (rq:cO) (aB:iT) (aI:iN) (nW:Nat) (bO:Row) (_:vs=[.ref w,.ref x]) (_:qK C CS CW CB H l c w x U W pe rows pq rq aB aI nW bO) (_:pe.length<=800) (_:pq.length<=800) (_:rows.length<40) (_:rq.length=rows.length) (_:aB.length<=800) (_:(∃ f,nQ (rows++[[]]) f)) (_ :
 ∀ (U' W':Addr->Prop) (H':Hp) (dG:iT),dG.length=aB.length+1->qK C CS CW CB H' l c w x U' W' (pe++[rows++[[]]]) (rows++[[]]) (pq++[rq++[[]]]) (rq++[[]]) dG aI nW bO->IU l U W U' W' H H'->Q (.bl true) H')
theorem D5:aH ["_law_world_here","_law_house"] ["_law_world_here","_law_house"] (aA rC):=fc
theorem D6:‹(8,91,["_law_world_here","_law_house"],(IZ C CS CW CB))›:=λD=>by
 specialize fG D.aak.F D5;obtain⟨l,c,w,x,U,W,pe,rows,pq,rq,aB,aI,nW,bO,rfl,St,b1,b1',b2,b2',b3,B,k⟩:=h;have hu:=gT hr;exists _,(aj (aT (aC D.R0 (rV D) hr (aa (pv 0) (aa (bx jh (ie hu (pv 0) bH) (bM (aa (bM ah) ah))) ah)))) (au (aN (aC D.Wu (nP D 1) hr (aa (ff (pv 1) D.aO D.RX (oX D) hr bN) (aa (bx cQ (fX D.T.fj (ie hu (pv 0) bH)) ay) ah))))));obtain⟨ik,rw,ps,vl,wu⟩:=id St.wo;have zr:=jD.k (k:=kR) wu.hw;rw[show cI (vf ik rw ps vl) kR=some (.ref rw) by kernel_rfl]at zr;exists Y,Y,w,Y,zr;obtain⟨wrw,n1,n2,vs,hvs,al⟩:=id wu.hr;have lv:=cu.len al;refine⟨iG,λe he=>⟨m6,λo ho=>?_⟩⟩;have s1:=ak he (.lst []);have e1:(aM H e (.lst [])) e=some (.lst []):=af;generalize aM H e (.lst [])=H1 at s1 e1 ho;have s2:=ak ho (.lst [.ref e]);have o2:(aM H1 o (.lst [.ref e])) o=some (.lst [.ref e]):=af;show Y6 _ _ (aM H1 o (.lst [.ref e])) _;generalize aM H1 o (.lst [.ref e])=H2 at s2 o2;have s02:=s1.trans s2;refine⟨rw,o,Z,s02 _ _ hvs,o2,(by rw[lv];exact gM (aR (by simp only[lR,qQ];lia))),λr Fv=>?_⟩;have s3:=ak Fv (.lst (vs++[.ref e]));have r3:(aM H2 r (.lst (vs++[.ref e]))) r=some (.lst (vs++[.ref e])):=af;generalize aM H2 r (.lst (vs++[.ref e]))=H3 at s3 r3;have Px:=s02.trans s3;have fr:=aY s02 Fv;obtain⟨as,Ge,_⟩:=id wu.hi;obtain⟨Xu,Nb,_⟩:=id wu.hp;have e3:=s3 _ _ (s2 _ _ e1);have wu3:MF W H3 w ik rw ps vl aI pq rq:=wu.fr (λa ob e _=>Px _ _ e) (λa xs e=>Px _ _ e)
 have Yg:MF (λa=>W a\/a=e\/a=r) H3 w ik rw ps vl aI pq rq:=qK.UQ wu3 (λa z=>.inl z) (by
  rintro a (z|z|z)
  ·exact wu3.al a z
  ·rw[z];exact⟨_,e3⟩
  ·rw[z];exact⟨_,r3⟩)
 have nW':∀ a ob,H a=some ob->¬ W a->¬ (W a\/a=e\/a=r):=by
  rintro a ob h0 n (z|z|z)
  ·exact n z
  ·rw[z,he]at h0;cases h0
  ·rw[z,fr]at h0;cases h0
 refine⟨λa=>W a\/a=e\/a=r,w,r,aI,pq,rq,rq++[[]],rfl,⟨ik,rw,ps,vl,Yg⟩,Q,λik' wC ⟨kZ,vl',ee⟩=>?_,λH4 wo4 fr4 tp4 _=>?_⟩
 ·rw[wu3.hw]at ee;simp only[Option.some.injEq,HO.dK.injEq,vf,List.cons.injEq,Prod.mk.injEq,V.ref.injEq,true_and,and_true]at ee;obtain⟨rfl,rfl,rfl,rfl⟩:=ee;exact⟨.inr (.inr rfl),(az Ge fr).symm,(az Nb fr).symm,_,r3,cu.snoc (al.mono λ_ _=>UP.fr (λa z=>.inl z) (λa xs e _ _ _=>Px _ _ e)) ⟨e,rfl,.inr (.inl rfl),(az Ge he).symm,(az Nb he).symm,e3⟩⟩
 have UK:∀ a ob,H a=some ob->¬ W a->H4 a=some ob:=λa ob e n=>fr4 _ _ (Px _ _ e) (nW' _ _ e n);have t04:∀ a xs,H a=some (.tup xs)->H4 a=some (.tup xs):=λa xs e=>tp4 _ _ (Px _ _ e);have afm:=St.GZ.fr (λa ob e z=>UK _ _ e (St.du a z).1) t04
 have XC:dB H4 l c:=by
  obtain⟨n,ns,i,d,r,e1,e2,h3⟩:=St.src;exact⟨n,ns,i,d,r,UK _ _ e1 (λq=>(St.dw l q).1 rfl),UK _ _ e2 (λq=>(St.dw c q).2 rfl),h3⟩
 have uw:∀ a,U a->¬ (W a\/a=e\/a=r):=λa z=>by
  obtain⟨ob,h0⟩:=St.GZ.al z;exact nW' _ _ h0 (St.du a z).1
 obtain⟨S',UM,d',UA,Tw,Yi,Yj,Yk,Yl,Ym,Eo,Ep,dw',sg',ow',pw',db',tb',DS,LU⟩:=id afm;refine⟨Y,x,d',Y,LU.L.hx,rfl,S',x,d',UA,Tw,Yi,Yj,Yk,Yl,Ym,Eo,Ep,pe,DS,aB,rows,rfl,LU.L,St.lst,Q,Q,Q,Q,⟨B,λS'' H5 L5 Hf=>?_⟩⟩;obtain⟨U',afn,fu⟩:=LU.ko L5 Hf;have wo5:=wo4.fr (λa ob e z=>fu.2.1 _ _ e (λy=>uw a y z)) fu.2.2;obtain⟨ik5,rw5,ps5,vl5,wu5⟩:=id wo5;obtain⟨_,_,_,vs5,afp,al5⟩:=id wu5.hr;have lv5:=cu.len al5;rw[cP]at lv5;have zr5:=jD.k (k:=kR) wu5.hw;rw[show cI (vf ik5 rw5 ps5 vl5) kR=some (.ref rw5) by kernel_rfl]at zr5;refine⟨Y,w,Y,zr5,rw5,Y,.inl (bI.of afp),Z,P,rfl,.inl ⟨rfl,?_⟩,λH6 s6=>?_⟩
 ·rw[lv5];simp only[lR,qQ];congr 1;lia
 have k06:∀ a ob,H a=some ob->¬ U a->¬ W a->H6 a=some ob:=λa ob e y z=>s6 _ _ (fu.2.1 _ _ (UK _ _ e z) y)
 have afq:dB H6 l c:=by
  obtain⟨n,ns,i,d,r,e1,e2,h3⟩:=XC;exact⟨n,ns,i,d,r,s6 _ _ (fu.2.1 _ _ e1 (λq=>(St.du l q).2.1 rfl)),s6 _ _ (fu.2.1 _ _ e2 (λq=>(St.du c q).2.2 rfl)),h3⟩
 have f04:∀ a,H4 a=none->H a=none:=by
  intro a h0
  cases ea:H a with
  | none=>rfl
  | some ob =>
   exfalso;by_cases z:W a
   ·obtain⟨ob,e2⟩:=wo4.al (a:=a) (.inl z);rw[e2]at h0;cases h0
   rw[UK _ _ ea z]at h0;cases h0
 refine k U' (λa=>W a\/a=e\/a=r) H6 _ (by rw[cP];rfl) ⟨afq,afn.same s6,by simp,wo5.same s6,λa z=>?_,λa z=>?_⟩ ⟨λa z=>z.elim (λz=>(fu.1 a z).elim .inl λy=>.inr (.inr (f04 a y))) (λz=>?_),λa ob e n y z=>k06 _ _ e y z,λa xs e=>s6 _ _ (fu.2.2 _ _ (t04 _ _ e))⟩
 ·rcases fu.1 a z with y|y
  ·exact⟨uw a y,(St.du a y).2⟩
  ·change H4 a=none at y;refine⟨λz=>?_,λq=>?_,λq=>?_⟩
   ·obtain⟨ob,e2⟩:=wo4.al z;rw[e2]at y;cases y
   ·obtain⟨_,ns,i,d,r,e1,_⟩:=XC;rw[q,e1]at y;cases y
   ·obtain⟨_,ns,i,d,r,_,e1,_⟩:=XC;rw[q,e1]at y;cases y
 ·have ne:=St.src.ne he;have nr:=St.src.ne fr;rcases z with z|z|z
  ·exact St.dw a z
  ·rw[z];exact⟨ne.1.symm,ne.2.symm⟩
  ·rw[z];exact⟨nr.1.symm,nr.2.symm⟩
 ·rcases z with z|z|z
  ·exact .inr (.inl z)
  ·rw[z];exact .inr (.inr he)
  ·rw[z];exact .inr (.inr fr)
abbrev e0(n:Nat):cO:=List.replicate n []
theorem zb(n:Nat):e0 n++[[]]=e0 (n+1):=(List.replicate_succ').symm
theorem xP{n:Nat}{es:List Int}(h:es∈e0 n):es=[]:=(List.mem_replicate.mp h).2
theorem XD{n:Nat}{x y:Int}:¬ jO (e0 n) x y:=λ⟨_,es,he,hy⟩=>by
 rw[xP (pA he)]at hy;cases hy
theorem Qn(n:Nat):gr (e0 n):=λes he y hy=>by
 rw[xP he]at hy;cases hy
theorem Qo(n:Nat):Dg (e0 n):=⟨λ_=>0,λ_=>Nat.zero_le _,λ_ _ z=>absurd z XD⟩
theorem GA{n:Nat}(h:n<=100):nQ (e0 n) λ_=>0:=by
 refine⟨by rw[wG];exact h,λes he=>by rw[xP he];exact Nat.zero_le _,Qn n,Qo n,λx es _ he=>?_,λ_ _ _=>by decide⟩;rw[xP (pA he)];rfl
def uZ(n:Nat):iS:=[[],[],[]]++(List.range n).map λk=>e0 (k+1)
theorem MM(n:Nat):uZ (n+1)=uZ n++[e0 (n+1)]:=by
 unfold uZ;rw[List.range_succ,gy,nC];rfl
theorem AF(n:Nat):(uZ n).length=n+3:=by
 unfold uZ;rw[cP,cz,List.length_range];show 3+n=_;lia
class inductive AG(C CS CW CB:Addr)
 | mk (l c w x:Addr) (U W:Addr->Prop) (_:vs=[.ref l,.ref w,.ref x]) (_:qK C CS CW CB H l c w x U W [[]] [] [[]] [] [] [] 0 []) (_ :
 ∀ (U' W':Addr->Prop) (H':Hp) (n:Nat) (aI:iN) (aB:iT),2<=n->n<=4->aI.length<=120->(∀ q∈aI,qI q.1)->aB.length=n+2->qK C CS CW CB H' l c w x U' W' (uZ n) (e0 n) (uZ n) (e0 n) aB aI 2 []->IU l U W U' W' H H'->Q (.bl true) H')
theorem iK:aH ["_law_src_here","_law_world_here","_law_house","_law_good","_law_k"] ["_law_src_here","_law_world_here","_law_house"] (aA rD):=fc
theorem D7:‹(9,92,["_law_src_here","_law_world_here","_law_house"],(AG C CS CW CB))›:=λD=>by
 specialize fG D.aal.F iK;obtain⟨l,c,w,x,U,W,rfl,St,k⟩:=h;have hu:=gT hr;exists _,(aj (aU (i:=3) iK.nd qm) (aj (dN PassesOwn.never rfl (gJ rfl D.T.jc (aa ay ah)) (b8 (i:=4) iK.nd) (au (aU (i:=3) iK.nd (pC (aC D.aaj (Gy D) hr (aa (pv 0) (aa (pv 1) (aa (pv 2) ah)))) (qS (pv 3)))))) (aj (dN PassesOwn.never rfl (gJ rfl D.T.jc (aa (bx dD ay (aC D.yd (fY D) hr (aa (pv 0) (aa ay ah)))) ah)) (b8 (i:=4) iK.nd) (au (aU (i:=3) iK.nd (pC (aC D.aak (D6 D) hr (aa (pv 1) (aa (pv 2) ah))) (qS (pv 3)))))) (au (aN (pv 3))))));have f0:IU l U W U W H H:=⟨λa z=>z.elim .inl λy=>.inr (.inl y),λa ob e _ _ _=>e,λ_ _ e=>e⟩;exists 2,rfl,E,E;refine jZ (lo:=0) (n:=(2:Int).toNat) (λj σ H1=>∃ (u4:Option V) (U1 W1:Addr->Prop) (aI:iN) (aB:iT),σ=[some (.ref l),some (.ref w),some (.ref x),some (.bl true),u4]/\qK C CS CW CB H1 l c w x U1 W1 (List.replicate (j+1) []) [] (List.replicate (j+1) []) [] aB aI j []/\aI.length<=60*j/\aB.length=j/\IU l U W U1 W1 H H1/\∀ q∈aI,qI q.1) ⟨none,U,W,[],[],rfl,St,fH _,rfl,f0,λ_ z=>nomatch z⟩ ?_ ?_
 ·rintro j σ H1 hj ⟨u4,U1,W1,aI,aB,rfl,G1,li,ll,f1,ft⟩;have hj2:j<2:=hj;refine⟨Y,Y,Y,l,c,w,x,U1,W1,K,_,aB,aI,j,[],rfl,G1,(by rw[wG];lia),(by rw[wG];lia),(by show 0<=50;decide),Q,Q,Q,λU2 H2 h cs gF Q0 fh xW Yn f2=>?_⟩;rw[← List.replicate_succ']at Yn
  have g:∃ (u4:Option V) (U3 W3:Addr->Prop) (XE:iN) (dG:iT),[some (.ref l),some (.ref w),some (.ref x),some (.bl true),some (V.int (0+(j:Int)))]=[some (.ref l),some (.ref w),some (.ref x),some (V.bl true),u4]/\qK C CS CW CB H2 l c w x U3 W3 (List.replicate (j+1+1) []) [] (List.replicate (j+1+1) []) [] dG XE (j+1) []/\XE.length<=60*(j+1)/\dG.length=j+1/\IU l U W U3 W3 H H2/\∀ q∈XE,qI q.1:=⟨_,U2,W1,_,gF,rfl,Yn,(by rw[cP,sU];lia),Q,f1.trans (by obtain⟨ls,hl⟩:=G1.src.lst;exact⟨_,hl⟩) f2,λq hq=>(List.mem_append.mp hq).elim (ft q) λz=>by
   obtain⟨_,_,rfl⟩:=List.mem_map.mp z
   exact fh⟩
  exists true,rfl;rw[if_pos rfl];exact⟨Y,g⟩
 rintro σ H1 ⟨u4,U1,W1,aI,aB,rfl,G1,li,ll,f1,ft⟩;refine⟨Y,l,c,3,rfl,G1.src,E,E,λv H2 v0 v1 S2 k2=>⟨Z,2+v,rfl,Q,Q,?_⟩⟩;have Yn:=G1.mv (bY k2) S2
 have f2:IU l U W U1 W1 H H2:=f1.trans (by obtain⟨ls,hl⟩:=G1.src.lst;exact⟨_,hl⟩) ⟨λa z=>z.elim .inl λy=>.inr (.inl y),λa ob e n _ _=>(bY k2) _ _ e n,λa xs e=>by
  obtain⟨ls,hl⟩:=G1.src.lst
  exact (bY k2) _ _ e (cV e hl)⟩
 clear f1;refine jZ (lo:=0) (n:=(2+v).toNat) (λj σ H3=>∃ (u4:Option V) (U3 W3:Addr->Prop) (aB:iT),σ=[some (.ref l),some (.ref w),some (.ref x),some (.bl true),u4]/\qK C CS CW CB H3 l c w x U3 W3 (uZ j) (e0 j) (uZ j) (e0 j) aB aI 2 []/\aB.length=j+2/\IU l U W U3 W3 H H3) ⟨u4,U1,W1,aB,rfl,Yn,ll,f2⟩ ?_ ?_
 ·rintro j σ H3 hj ⟨u4,U3,W3,aB,rfl,Yo,ll,f3⟩;have hj2:j<4:=by lia
  refine⟨Y,Y,l,c,w,x,U3,W3,K,_,aB,aI,2,[],rfl,Yo,(by rw[AF];lia),(by rw[AF];lia),(by rw[wG];lia),rfl,Q,⟨_,by rw[zb];exact GA ∅⟩,λU4 W4 H4 XF hl4 TF f4=>?_⟩;rw[zb,← MM]at TF;have g:∃ (u4:Option V) (U5 W5:Addr->Prop) (dG:iT),[some (.ref l),some (.ref w),some (.ref x),some (.bl true),some (V.int (0+(j:Int)))]=[some (.ref l),some (.ref w),some (.ref x),some (V.bl true),u4]/\qK C CS CW CB H4 l c w x U5 W5 (uZ (j+1)) (e0 (j+1)) (uZ (j+1)) (e0 (j+1)) dG aI 2 []/\dG.length=j+1+2/\IU l U W U5 W5 H H4:=⟨_,U4,W4,XF,rfl,TF,Q,f3.trans (by obtain⟨ls,hl⟩:=Yo.src.lst;exact⟨_,hl⟩) f4⟩;exists true,rfl;rw[if_pos rfl];exact⟨Y,g⟩
 rintro σ H3 ⟨u4,U3,W3,aB,rfl,Yo,ll,f3⟩;exact⟨Y,k U3 W3 H3 (2+v).toNat aI aB ∅ ∅ (by have:(2:Int).toNat=2:=rfl;lia) ft ll Yo f3⟩
theorem LD.At.tup{H:Hp}{t:Addr}{dd:LD}(h:dd.At H t):∃ vs,H t=some (.tup vs)/\pG vs 1=some (.int dd.sh):=by
 cases dd with
 | put=>exact⟨_,h.1,rfl⟩
 | _=>exact⟨_,h,rfl⟩
theorem LD.At.kept{H H':Hp}{t:Addr}{dd:LD}(h:dd.At H t)(tp:∀ a xs,H a=some (.tup xs)->H' a=some (.tup xs))(kr:∀ s p r row,dd=.put s p r row->∀ xs,H r=some (.lst xs)->H' r=some (.lst xs)):dd.At H' t:=by
 cases dd with
 | put s p r row =>
  obtain⟨h1,as,ha,pa⟩:=h;exact⟨tp _ _ h1,as,kr _ _ _ _ rfl _ ha,pa.tups tp⟩
 | _=>exact tp _ _ h
def Apart(l c:Addr)(U W U2:Addr->Prop):Prop:=∀ a,U2 a->¬ U a/\¬ W a/\a≠l/\a≠c
class inductive GB(C CS CW CB:Addr)
 | mk (l c w x y:Addr) (U W U2:Addr->Prop) (pe Bp:iS) (rows:cO) (aB gF:iT) (aI:iN) (nW TJ:Nat) (bO:Row) (_:vs=[.ref l,.ref w,.ref x,.ref y]) (_:qK C CS CW CB H l c w x U W pe rows pe rows aB aI nW bO) (_:oG C CS CW CB U2 H y Bp gF aI TJ bO) (_:Bp.getLast?=some rows) (_:Apart l c U W U2) (_:1<=rows.length) (_:pe.length<=800) (_:aB.length<=800) (_:Bp.length<=800) (_:gF.length<=800) (_:aI.length<=10000) (_:Good aI.length rows) (_:∀ (U' W' TL:Addr->Prop) (M9 Qp:iS) (rows':cO) (dG sX:iT) (H':Hp),qK C CS CW CB H' l c w x U' W' M9 rows' M9 rows' dG aI nW bO->oG C CS CW CB TL H' y Qp sX aI TJ bO->Qp.getLast?=some rows'->Apart l c U' W' TL->rows'.length=rows.length->M9.length<=pe.length+1->dG.length<=aB.length+1->Qp.length<=Bp.length+1->sX.length<=gF.length+1->Good aI.length rows'->Q .gm H')
theorem r9:aH ["_law_src_here","_law_world_here","_law_house","_law_other","_law_deed_here","_law_rows"] ["_law_src_here","_law_world_here","_law_house","_law_other"] (aA uH):=fc
theorem GC(D:Ds K mg aZ br C CS CW CB CT CD)(I0:bq P w K mg zt cM 43 (aZ 89) (br 89) ["_law_src_here","_law_world_here"] Ql)(GD:bq P w K mg zt cM 45 (aZ 84) (br 84) ["_law_world_here","_law_deed_here"] KN)(Ja:bq P w K mg zt cM 43 (aZ 83) (br 83) ["_law_rows","_law_sheet"] Qg)(AH:bq P w K mg zt cM 7 (aZ 86) (br 86) ["_law_house","_law_deed_here"] (Qj C CS CW CB)):bq P w K mg zt cM 46 (aZ 93) (br 93) ["_law_src_here","_law_world_here","_law_house","_law_other"] (GB C CS CW CB):=by
 refine fG D.aam.F r9 λdm A zn s0 H vs Q E hr h=>?_;obtain⟨l,c,w,x,y,U,W,U2,pe,Bp,rows,aB,gF,aI,nW,afr,bO,rfl,St,LB,xW,ap,r1,b1,b2,c1,c2,b3,gd,k⟩:=h;have hu:=gT hr;exists _,(aj (aU (i:=4) r9.nd (aC D.aai I0 hr (aa (pv 0) (aa (pv 1) ah)))) (aj (aU (i:=5) r9.nd (aC D.WJ (yq D) hr (aa (ie hu (pv 1) bH) (aa (aP aX (pv 4) ay) (aa (aC D.aag GD hr (aa (pv 1) (aa (pv 4) ah))) ah))))) (au (bP (mF (aC D.aaf Ja hr (aa (pv 5) (aa (aP aX (pv 4) ay) ah)))) (aj (aT (aC D.R0 (rV D) hr (aa (pv 1) (aa (pv 5) ah)))) (aj (aT (aC D.WO AH hr (aa (pv 2) (aa (pv 4) ah)))) (au (aT (aC D.WO AH hr (aa (pv 3) (aa (pv 4) ah))))))) bf))));obtain⟨sh,g⟩:=gd.UU;have l40:=g.ln;refine⟨Y,Y,W,l,c,w,aI,pe,rows,sh,rfl,St.src,St.wo,St.dw,g,r1,Q,λt dd H1 Xz ok nw S1 K1=>?_⟩;have G1:=St.mv K1 S1;obtain⟨ls,hls⟩:=St.src.lst;have tl:∀ {a:Addr} {xs:List V},H a=some (.tup xs)->H1 a=some (.tup xs):=λe=>K1 _ _ e (cV e hls);have LB1:=LB.fr (λa ob e z=>K1 _ _ e (ap a z).2.2.1) (λa xs e=>tl e);obtain⟨ik,kZ,ps,vl,wu⟩:=id G1.wo;have zr:=jD.k (k:=kR) wu.hw;rw[show cI (vf ik kZ ps vl) kR=some (.ref kZ) by kernel_rfl]at zr;obtain⟨_,_,_,xs,hxs,al⟩:=id wu.hr;have lv:=cu.len al;obtain⟨tv,ht,ht1⟩:=Xz.tup;have is:=LD.in_ ok;have is1:=is.1;have is2:=is.2;have ss:((dd.sh.toNat:Nat):Int)=dd.sh:=by lia
 refine⟨Y,w,Y,zr,Y,t,K,V,cY.of ht,ht1,Y,Y,W,w,t,aI,pe,rows,aI.length,sh,dd,rfl,G1.wo,Xz,g,ok,Q,λo H2 ho lo s2 fo=>?_⟩;refine⟨kZ,o,dd.sh.toNat,xs,by rw[ss];rfl,s2 _ _ hxs,Q,Q,λq H3 hq s3 fq=>?_⟩;have ve:=s2.trans s3;have fq1:=aY s2 fq;have ne:=LD.Xx g ok;have en':=Qc (s:=dd.sh.toNat) g.en ne;have R3:ic (λ_=>False) H3 q (rows.set dd.sh.toNat (dd.res sh rows)):=⟨_,hq,cu.set _ (al.mono λv es ⟨b,e,K,hb⟩=>⟨b,e,λz=>z,ve _ _ hb⟩) ⟨o,rfl,λz=>z,s3 _ _ ho⟩⟩;have hl3:(rows.set dd.sh.toNat (dd.res sh rows)).length=rows.length:=List.length_set
 refine⟨Y,Y,t,K,V,cY.of (ve _ _ ht),ht1,_,q,_,dd.sh,rfl,R3,Q,(λes he=>by
  rcases List.mem_or_eq_of_mem_set he with z|z
  ·have:=g.es es z;lia
  ·rw[z];exact lo),D3 en',is1,Q,P9 is1 g.sn.rk,λb H4 s4 hb=>⟨b,rfl,?_⟩⟩
 have DP:=ve.trans s4;have TF:=G1.same DP
 cases b with
 | false=>exact gh (k U W U2 pe Bp rows aB gF H4 TF (LB1.same DP) xW ap rfl ∅ ∅ ∅ ∅ gd)
 | true =>
  refine jA ?_;obtain⟨R5,f5,w5,m5⟩:=hb rfl;have gd':Good aI.length (rows.set dd.sh.toNat (dd.res sh rows)):=⟨en',R5,Q,f5,w5,m5⟩;have wu4:MF W H4 w ik kZ ps vl aI pe rows:=wu.fr (λa ob e _=>DP _ _ e) λa xs e=>DP _ _ e;have nq:=G1.new fq1;have no:=G1.new fo;obtain⟨Yg,rv⟩:=Wo.swap wu4 (DP _ _ hxs) (s4 _ _ hq) (s4 _ _ (s3 _ _ ho)) nq.2.1 no.2.1;refine⟨Y,Y,_,w,q,aI,pe,rows,rows.set dd.sh.toNat (dd.res sh rows),rfl,⟨ik,kZ,ps,vl,Yg⟩,Q,λik' wC ⟨rw2,vl',ee⟩=>?_,λH5 wo5 Hf tp5 _=>?_⟩
  ·rw[wu4.hw]at ee;simp only[Option.some.injEq,HO.dK.injEq,vf,List.cons.injEq,Prod.mk.injEq,V.ref.injEq,true_and,and_true]at ee;obtain⟨rfl,rfl,rfl,rfl⟩:=ee;exact rv
  have UY:=TF.kept wo5 (λa z y=>by
   rcases y with y|y|y
   ·exact (St.du a z).1 y
   ·exact no.1 (by rw[← y];exact z)
   ·exact nq.1 (by rw[← y];exact z)) (λa y=>by
   rcases y with y|y|y
   ·exact St.dw a y
   ·rw[y];exact no.2.2
   ·rw[y];exact nq.2.2) Hf tp5
  have abj:dd.At H5 t:=(Xz.same DP).kept tp5 λs p r row ed Zd hr'=>by
   rw[ed]at nw Xz;have nr:=St.new (show H r=none from nw);obtain⟨_,as,ha,_⟩:=Xz;refine Hf _ _ hr' λy=>?_;rcases y with y|y|y
   ·exact nr.2.1 y
   ·rw[y,fo]at ha;cases ha
   ·rw[y,fq1]at ha;cases ha
  refine⟨Y,Y,U,x,t,pe,aB,aI,nW,bO,rows,sh,dd,rfl,UY.GZ,UY.lst,Q,Q,b3,abj,g,ok,by rw[wg _ ∅];exact gd'.bears,λU' H6 dG ll L6 EX=>?_⟩;obtain⟨wD,_⟩:=UY.Ti L6 (rows':=iZ rows dd.sh.toNat (dd.res sh rows)) (by simp) EX;rw[wg _ ∅]at wD
  have TJ:∀ a,U2 a->¬ (W a\/a=o\/a=q):=λa z y=>by
   obtain⟨ob,e⟩:=LB1.al z;rcases y with y|y|y
   ·exact (ap a z).2.1 y
   ·rw[y,fo]at e;cases e
   ·rw[y,fq1]at e;cases e
  have LB5:=(LB1.same DP).fr (λa ob e z=>Hf _ _ e (TJ a z)) tp5;have LB6:=LB5.fr (λa ob e z=>EX.2.1 _ _ e (ap a z).1) EX.2.2
  have nU':∀ a,U' a->¬ U2 a:=λa z y=>by
   rcases EX.1 a z with u|u
   ·exact (ap a y).1 u
   ·obtain⟨ob,e⟩:=LB5.al y;rw[u]at e;cases e
  have afw:dd.At H6 t:=abj.kept EX.2.2 λs p r row ed Zd hr'=>by
   rw[ed]at nw;exact EX.2.1 _ _ hr' (St.new (show H r=none from nw)).1
  refine⟨Y,Y,U2,y,t,Bp,gF,aI,afr,bO,rows,sh,dd,rfl,LB6,xW,Q,Q,b3,afw,g,ok,by rw[wg _ ∅];exact gd'.bears,λTL H7 sX ll2 L7 QK=>?_⟩;rw[wg _ ∅]at L7;have TM:qK C CS CW CB H7 l c w x U' _ _ _ _ _ dG aI nW bO:=⟨wD.src.fru QK (λz=>(ap l z).2.2.1 rfl) (λz=>(ap c z).2.2.2 rfl),wD.GZ.fr (λa ob e z=>QK.2.1 _ _ e (nU' a z)) QK.2.2,wD.lst,wD.wo.fr (λa ob e z=>QK.2.1 _ _ e (λy=>TJ a y z)) QK.2.2,wD.du,wD.dw⟩;refine k U' _ TL _ _ _ dG sX H7 TM L7 jR (λa z=>?_) hl3 (by rw[cP];exact fH _) ∅ (by rw[cP];exact fH _) ∅ gd';rcases QK.1 a z with y|y
  ·exact⟨λu=>nU' a u y,TJ a y,(ap a y).2.2⟩
  ·exact wD.new y
def jm(p:Int->Bool)(es:List Int):List Int:=es.filter λe=>decide (e<0) || !p e
theorem Qq(p q:Int->Bool)(es:List Int):jm p (jm q es)=jm (λa=>p a || q a) es:=by
 unfold jm;rw[List.filter_filter];refine List.filter_congr λe _=>?_;show _=(decide (e<0) || !(p e || q e))
 cases decide (e<0) <;> cases p e <;> cases q e <;> rfl
theorem Jb{p q:Int->Bool}(h:∀ a,p a=q a)(es:List Int):jm p es=jm q es:=by rw[show p=q from funext h]
theorem CF{sh:Int->List Int}{p:Int->Bool}:∀ es:List Int,aS (λs=>(sh s).filter λa=>!p a) (jm p es)=(aS sh es).filter λa=>!p a
 | []=>rfl
 | e::r=>by
  have ih:=CF (sh:=sh) (p:=p) r;rw[bQ,List.filter_append,← ih];unfold jm aW;by_cases c:e<0
  ·rw[List.filter_cons_of_pos (by rw[decide_eq_true c];rfl),bQ,if_pos c];unfold aW;rw[if_pos c]
  ·rw[if_neg c]
   cases z:p e with
   | true=>rw[List.filter_cons_of_neg (by rw[decide_eq_false c,z];exact gf),List.filter_cons_of_neg (by rw[z];exact gf)];rfl
   | false =>
    rw[List.filter_cons_of_pos (by rw[z,Bool.not_false,Bool.or_true]),List.filter_cons_of_pos (by rw[z];rfl),bQ];unfold aW;rw[if_neg c];rfl
theorem CG{p:Int->Bool}{es:List Int}{y:Int}:y∈dM (jm p es)↔y∈dM es:=by
 rw[cy,cy];refine and_congr_right λh=>?_;unfold jm;rw[List.mem_filter];exact⟨λz=>z.1,λz=>⟨z,by rw[decide_eq_true ∅];rfl⟩⟩
theorem Seen.D8{rows:cO}{sh:Int->List Int}(h:Seen rows sh)(p:Int->Bool):Seen (rows.map (jm p)) λs=>(sh s).filter λa=>!p a:=by
 have get:∀ {x:Int} {es:List Int},(rows.map (jm p))[x.toNat]?=some es->∃ Kq,rows[x.toNat]?=some Kq/\es=jm p Kq:=λe=>by
  rw[fP]at e;obtain⟨Kq,e0,rfl⟩:=Option.map_eq_some_iff.mp e;exact⟨Kq,e0,rfl⟩
 have nx:∀ {x y:Int},jO (rows.map (jm p)) x y->jO rows x y:=λ⟨x0,es,e,hy⟩=>by
  obtain⟨Kq,e0,rfl⟩:=get e;exact⟨x0,Kq,e0,CG.mp hy⟩
 obtain⟨rk,rb,dn⟩:=id h.rk;refine⟨λes he=>?_,λes he y hy=>?_,⟨rk,rb,λx y n=>dn x y (nx n)⟩,λx es x0 e=>?_,λx x0 x1=>?_⟩
 ·obtain⟨Kq,h0,rfl⟩:=List.mem_map.mp he;exact gR (List.length_filter_le ..) (h.es Kq h0)
 ·obtain⟨Kq,h0,rfl⟩:=List.mem_map.mp he;rw[cz];exact h.sd Kq h0 y (CG.mp hy)
 ·obtain⟨Kq,e0,rfl⟩:=get e;rw[CF,← h.ss x Kq x0 e0]
 ·rw[cz]at x1;exact gR (List.length_filter_le ..) (h.ln x x0 x1)
class inductive GF(C CS CW CB:Addr)
 | mk (U U2 W:Addr->Prop) (x y w kk:Addr) (pe Bp pq:iS) (aB gF:iT) (aI XG:iN) (nW TJ:Nat) (bO:Row) (rows:cO) (sh:Int->List Int) (ns:List Int) (_:vs=[.ref w,.ref x,.ref y,.ref kk]) (_:oG C CS CW CB U H x pe aB aI nW bO) (_:pe.getLast?=some (rows.map (jm λa=>decide (a∈ns)))) (_:pe.length<=900) (_:oG C CS CW CB U2 H y Bp gF aI TJ bO) (_:Bp.getLast?=some (rows.map (jm λa=>decide (a∈ns)))) (_:Bp.length<=900) (_:Wo W H w XG pq rows) (_:Gd XG.length rows sh) (_:H kk=some (.lst (ns.map V.int))) (_:ns.length<=10000) (_:∀ H',aK H H'->Q (.bl true) H')
theorem sf:aH ["_law_world_here","_law_house","_law_other","_law_struck","_law_sheet","_law_due"] ["_law_world_here","_law_house","_law_other","_law_struck"] (aA pZ):=fc
theorem GG:‹(43,94,["_law_world_here","_law_house","_law_other","_law_struck"],(GF C CS CW CB))›:=λD=>by
 have m7:bq P w K mg zt cM 5 _ _ ["_law_found","_law_due"] (zG 4):=nP D 4;refine fG D.aan.F sf λdm A zn s0 H vs Q E hr h=>?_;obtain⟨U,U2,W,x,y,w,kk,pe,Bp,pq,aB,gF,aI,XG,nW,TJ,bO,rows,sh,ns,rfl,LB,hl,l2,LB2,xW,l22,wo,g,hk,lk,k⟩:=h;have hu:=gT hr;have l40:=g.ln;refine⟨_,(aj (dN PassesOwn.never rfl (gJ rfl D.T.jc (aa (fX D.T.fj (ie hu (pv 0) bH)) ah)) (b8 (i:=4) sf.nd) (aj (Kf (N:=["_law_number","_law_struck"]) (i:=5) (nL (sc:=aA pZ) (NX:=["_law_world_here","_law_house","_law_other","_law_struck","_law_sheet","_law_due"]) (jx:=[none,some 3]) rfl rfl rfl nofun nofun rfl nofun rfl nofun) rfl sf.nd rfl rfl (cF (aC D.Ft (iz D 41) hr (aa (ie hu (pv 0) bH) (aa (pv 4) ah)))) (λ_ _ _ _ _ _=>(b8 (i:=0) (show List.Nodup (["_law_number","_law_struck"]:List Str) by decide +kernel))) (λ_ _ _ _ _ _=>C6 (aV HY (pv 0) (pv 1) rfl)) (λ_ _ _ _ _ _=>(pv 0))) (aj (bP (mG (mF (aC D.Wu m7 hr (aa (cL (pv 1) D.aO D.OV (iJ D) hr bN (aa (pv 4) ah)) (aa (aC D.WN (t7 D) hr (aa (pv 5) ah)) ah))))) (au (aN qm)) bf) (aj (bP (mG (mF (aC D.Wu m7 hr (aa (cL (pv 2) D.aO D.OV (iJ D) hr bN (aa (pv 4) ah)) (aa (aC D.WN (t7 D) hr (aa (pv 5) ah)) ah))))) (au (aN qm)) bf) (au (bP (mG (mF (aC D.Wu m7 hr (aa (cL (pv 2) D.aO D.WI (rS D) hr bN (aa (pv 4) ah)) (aa (cL (pv 1) D.aO D.WI (rS D) hr bN (aa (pv 4) ah)) ah))))) (au (aN qm)) bf)))))) (au (aN qm))),?_⟩;obtain⟨ik,kZ,ps,vl,wu⟩:=id wo;have zr:∀ {H1:Hp},aK H H1->_:=λ{H1} s=>jD.k (k:=kR) (s _ _ wu.hw);rw[show cI (vf ik kZ ps vl) kR=some (.ref kZ) by kernel_rfl]at zr;have R:=wu.hr.at_;obtain⟨xs,hxs,al⟩:=id R;have lv:=cu.len al;obtain⟨rk,rb,dn⟩:=id g.sn.rk;have sn:=g.sn.D8 λa=>decide (a∈ns);have lS:(rows.map (jm λa=>decide (a∈ns))).length=rows.length:=cz _;obtain⟨S,SW,d,wl,Tw,bl,kn,du,bk,dS,st,op,dw,sg,ow,pw,db,tb,ops,LU⟩:=id LB;obtain⟨S2,SW2,d2,Sk,sh2,bl2,kn2,du2,bk2,dS2,st2,QA,dw2,sg2,ow2,pw2,db2,tb2,abk,F8⟩:=id LB2;exists Y,w,Y,zr (aK.refl _),kZ,Y,.inl (bI.of hxs),Y,Q,Q;refine jZ (lo:=0) (n:=_) (λj σ H1=>∃ u4 u5:Option V,σ=[some (.ref w),some (.ref x),some (.ref y),some (.ref kk),u4,u5]/\aK H H1) ⟨none,none,rfl,aK.refl _⟩ ?_ ?_
 ·rintro j σ H1 hj ⟨u4,u5,rfl,s1⟩;rw[Int.zero_add];have ij:sS rows.length ((j:Nat):Int):=⟨Q,Q⟩;have ls:=g.sl _ ij.1 ij.2;refine⟨Y,w,Y,zr s1,Y,_,kZ,rows,(j:Nat),sh,rk,rfl,R.same s1,Q,g.sn.sd,ij.1,ij.2,g.sn.ss,g.sn.ln,dn,by have:=rb j;lia,λo H2 ho s2 fo=>?_⟩;have jU:=s1.trans s2;refine⟨o,rfl,⟨_,bI.of ho⟩,λacc cT=>gE (K:=K) (a:=o) (xs:=(sh (j:Nat)).map V.int) (λi σ H3=>∃ u:Option V,σ=[u,some (.ref kk)]/\H3 acc=some (.lst ((((sh (j:Nat)).take i).filter λa=>!decide (a∈ns)).map V.int))/\aK H2 H3) ⟨none,rfl,af,ak cT _⟩ (λi σ H3 _ h=>by obtain⟨_,_,_,s3⟩:=h;exact bI.of (s3 _ _ ho)) ?_ ?_⟩
  ·rintro i v σ H3 hi ⟨u,rfl,h3,s3⟩;rw[fP]at hi;obtain⟨a,ea,rfl⟩:=Option.map_eq_some_iff.mp hi;have il:=(List.getElem?_eq_some_iff.mp ea).1;have lf:=List.length_filter_le (λa=>!decide (a∈ns)) ((sh (j:Nat)).take i);rw[gB]at lf;exists Y,Y,kk,Y,.inl (bI.of ((jU.trans s3) _ _ hk)),rfl,xj ns,Y;rw[Df];by_cases hm:a∈ns
   ·rw[decide_eq_true hm];refine gh ⟨Y,?_,s3⟩;rw[take_snoc ea,List.filter_append,List.filter_cons_of_neg (by rw[decide_eq_true hm];exact gf),List.filter_nil,gK];exact h3
   ·rw[decide_eq_false hm];refine jA ⟨Y,_,h3,(by rw[cz];exact aR ∅),Y,?_,bS cT s3 (aG acc _ _)⟩;rw[af,take_snoc ea,List.filter_append,List.filter_cons_of_pos (by rw[decide_eq_false hm];rfl),List.filter_nil,gy];rfl
  rintro σ H3 ⟨u,rfl,h3,s3⟩;rw[cz,gQ]at h3;have lf:=List.length_filter_le (λa=>!decide (a∈ns)) (sh (j:Nat));have ve:=jU.trans s3;have ij':sS (rows.map (jm λa=>decide (a∈ns))).length ((j:Nat):Int):=by rw[lS];exact ij
  have L3:=(LU.same ve).L;refine⟨Y,x,d,Y,L3.hx,rfl,Y,S,x,d,wl,Tw,bl,kn,du,bk,dS,st,op,pe,ops,aB,_,(j:Nat),rfl,L3,hl,Q,l2,ij',⟨_,sn,λo4 H4 ho4 s4 fo4=>?_⟩⟩;refine⟨Y,acc,Y,s4 _ _ h3,Q,λr H5 hr5 s5 f5=>⟨P,rfl,ck.eqv (ho4.same s5) hr5 1,λH6 s6=>⟨true,rfl,gh ?_⟩⟩⟩;have s36:=s4.trans (s5.trans s6);have PN:=ve.trans s36;have L6:=(F8.same PN).L;refine⟨Y,y,d2,Y,L6.hx,rfl,Y,S2,y,d2,Sk,sh2,bl2,kn2,du2,bk2,dS2,st2,QA,Bp,abk,gF,_,(j:Nat),rfl,L6,xW,Q,l22,ij',⟨_,sn,λo7 H7 ho7 s7 fo7=>?_⟩⟩;refine⟨Y,acc,Y,(s36.trans s7) _ _ h3,Q,λr8 H8 hr8 s8 f8=>⟨P,rfl,ck.eqv (ho7.same s8) hr8 1,λH9 s9=>⟨true,rfl,gh ?_⟩⟩⟩;have s19:=PN.trans (s7.trans (s8.trans s9));have L9:=(F8.same s19).L;refine⟨Y,y,d2,Y,L9.hx,rfl,Y,S2,y,d2,Sk,sh2,bl2,kn2,du2,bk2,dS2,st2,QA,Bp,abk,gF,_,(j:Nat),rfl,L9,xW,Q,l22,ij',λes oH qA HA hqA sA fA=>?_⟩;have s1A:=s19.trans sA;have LA:=(LU.same s1A).L;refine⟨Y,x,d,Y,LA.hx,rfl,Y,S,x,d,wl,Tw,bl,kn,du,bk,dS,st,op,pe,ops,aB,_,(j:Nat),rfl,LA,hl,Q,l2,ij',λes2 PZ qB HB hqB sB fB=>?_⟩;rw[oH]at PZ;cases PZ;exact⟨P,rfl,bz.eqv 1 (hqA.same sB) hqB,λHC sC=>⟨true,rfl,gh ⟨P,rfl,s1A.trans (sB.trans sC)⟩⟩⟩
 ·rintro σ H1 ⟨u4,u5,rfl,s1⟩;exact k H1 s1
theorem TN{n m:Nat}(h:m<=40):Good n (e0 m):=by
 refine⟨λes he e hm=>?_,Qo m,by rw[wG];exact h,λ_=>0,λx es _ he=>?_,λ_ _ _=>(by decide:(0:Int)<=200)⟩
 ·rw[xP he]at hm;cases hm
 ·rw[xP (pA he)];rfl
inductive I49(C CS CW CB l c w x y:Addr)(aI:iN)(j:Nat)(H:Hp):Prop
 | mk (U W U2:Addr->Prop) (pe Bp:iS) (rows:cO) (aB gF:iT) (_:qK C CS CW CB H l c w x U W pe rows pe rows aB aI 2 []) (_:oG C CS CW CB U2 H y Bp gF aI aI.length []) (_:Bp.getLast?=some rows) (_:Apart l c U W U2) (_:2<=rows.length) (_:pe.length<=140+j) (_:aB.length<=140+j) (_:Bp.length<=140+j) (_:gF.length<=140+j) (_:Good aI.length rows)
theorem o6{U:Addr->Prop}{H:Hp}{x q:Addr}{as:List Addr}{pe:iS}{aB:iT}{aI:iN}{nW:Nat}{bO row:Row}{rows:cO}{sh:Int->List Int}{Q:VK}{E:XK}(LB:oG C CS CW CB U H x pe aB aI nW bO)(pa:bg H as row)(l:row.length<=2)(d:∀ p∈row,0<=p.1/\p.1<p.2/\p.2<=(aI.length:Nat)/\p.2<=p.1+(40:Nat))(li:aI.length<=1000)(hl:pe.getLast?=some rows)(b1:rows.length<=50)(b2:pe.length<=900)(b3:aB.length<=900)(sn:Seen rows sh)(k:∀ (U':Addr->Prop) (dG:iT) (H':Hp),dG.length=aB.length+1->oG C CS CW CB U' H' x (pe++[rows.map (jm (Dl row))]) dG aI nW bO->Ew U U' H H'->Q .gm H')(hq:H q=none):Ax C CS CW CB [.ref x,.ref q] (aM H q (.lst (as.map V.ref))) Q E:=by
 have s:=ak hq (.lst (as.map V.ref));exact⟨U,x,q,pe,aB,aI,nW,bO,row,rows,sh,rfl,LB.same s,⟨as,af,pa.same s⟩,Q,⟨Q,λp h=>by have:=d p h;exact⟨⟨Q,Q⟩,⟨Q,Q⟩⟩⟩,hl,b1,b2,b3,Gu λp h=>by have:=d p h;exact⟨this.1,this.2.1,this.2.2.1⟩,sn,λU' H' L' fr=>k U' _ H' (by rw[cP];rfl) L' (fr.pre s)⟩
theorem Apart.go{l c:Addr}{U W U2 U' W':Addr->Prop}{H H':Hp}(ap:Apart l c U W U2)(fr:IU l U W U' W' H H')(al:∀ a,U2 a->∃ ob,H a=some ob):Apart l c U' W' U2:=λa z=>by
 have key:¬ (U' a\/W' a):=λq=>by
  rcases fr.1 a q with q|q|q
  ·exact (ap a z).1 q
  ·exact (ap a z).2.1 q
  ·obtain⟨ob,e⟩:=al a z;rw[q]at e;cases e
 exact⟨λq=>key (.inl q),λq=>key (.inr q),(ap a z).2.2⟩
theorem qK.apart{H H':Hp}{l c w x:Addr}{U W U2 TL:Addr->Prop}{pe:iS}{rows:cO}{pq:iS}{rq:cO}{aB:iT}{aI:iN}{nW:Nat}{bO:Row}(St:qK C CS CW CB H l c w x U W pe rows pq rq aB aI nW bO)(ap:Apart l c U W U2)(fr:Ew U2 TL H H'):qK C CS CW CB H' l c w x U W pe rows pq rq aB aI nW bO/\Apart l c U W TL :=
 ⟨⟨St.src.fru fr (λz=>(ap l z).2.2.1 rfl) (λz=>(ap c z).2.2.2 rfl),St.GZ.fr (λa ob e z=>fr.2.1 _ _ e (λy=>(ap a y).1 z)) fr.2.2,St.lst,St.wo.fr (λa ob e z=>fr.2.1 _ _ e (λy=>(ap a y).2.1 z)) fr.2.2,St.du,St.dw⟩,λa z=>(fr.1 a z).elim (ap a) St.new⟩
theorem oG.m{U:Addr->Prop}{H:Hp}{x:Addr}{pe:iS}{aB:iT}{aI:iN}{nW:Nat}{bO:Row}{m:Str}{k:Prop}(L:oG C CS CW CB U H x pe aB aI nW bO)(q:k)(h:∀ a b c d e f:V,List.lookup m [("well",a),("shelf",b),("blots",c),("knots",d),("dues",e),("book",f)]=none:=by intros;rfl):Vz C m (.ref x) H k:=by
 obtain⟨S',UM,d',UA,Tw,Yi,Yj,Yk,Yl,Ym,Eo,Ep,dw',sg',ow',pw',db',tb',DS,LU⟩:=id L;exact⟨x,d',Y,LU.L.hx,h ..,q⟩
def Off(R:Addr->Prop)(H0 H:Hp)(U U2:Addr->Prop):Prop:=(∀ a,R a->∃ ob,H0 a=some ob/\H a=some ob/\¬ U a/\¬ U2 a)/\∀ a xs,H0 a=some (.tup xs)->H a=some (.tup xs)
theorem Off.one{R U U' U2:Addr->Prop}{H0 H H':Hp}(o:Off R H0 H U U2)(fr:Ew U U' H H'):Off R H0 H' U' U2:=⟨λa r=>by
  obtain⟨ob,e0,e,n,m⟩:=o.1 a r
  exact⟨ob,e0,fr.2.1 _ _ e n,λz=>(fr.1 a z).elim n (λy=>by rw[y]at e;cases e),m⟩,λa xs e=>fr.2.2 _ _ (o.2 a xs e)⟩
theorem Off.flip{R U U2:Addr->Prop}{H0 H:Hp}(o:Off R H0 H U U2):Off R H0 H U2 U:=⟨λa r=>by
  obtain⟨ob,e0,e,n,m⟩:=o.1 a r
  exact⟨ob,e0,e,m,n⟩,o.2⟩
theorem Off.row{R U U2:Addr->Prop}{H0 H:Hp}{r:Addr}{row:Row}(o:Off R H0 H U U2)(h:ck H0 r row)(z:R r):ck H r row:=h.two (λxs e=>by
  obtain⟨ob,e0,e1,_⟩:=o.1 r z;rw[e]at e0;cases e0
  exact e1) o.2
theorem map_two{p q r:Int->Bool}(h:∀ a,(p a || q a)=r a)(rows:cO):(rows.map (jm q)).map (jm p)=rows.map (jm r):=by
 rw[List.map_map];exact List.map_congr_left λes _=>(Qq p q es).trans (Jb h es)
theorem Jc(r q:Row)(a:Int):(Dl r a || Dl q a)=decide (a∈bu r++bu q):=by
 rw[Bool.eq_iff_iff,Bool.or_eq_true,decide_eq_true_iff,List.mem_append,nM,nM,sL,sL]
theorem nT:aH ["_law_script","_law_src_here","_law_house","_law_other","_law_world_here","_law_start","_law_hand","_law_sign_here","_law_k","_law_one","_law_two","_law_struck"] ["_law_script"] (aA Rf):=fc
theorem all_mk:Ub:=by
 intro P w K mg fa q;obtain⟨d9,gV,gO,BK,EN,bJ,X,G,hfa,JZ,j9,oR,N3,wU,vA,oS,J1,yS,N4,C2,C3,N5,J2,BL,zA,eY,C4,C5,J3,EO,q0,q1,q2,q3,q4,q5,q6,q7,q8,q9,BN,q11,q12,q13,q14,q15,q16,q17,q18,q19,q20,q21,q22,q23,q24,q25,q26,q27,q28,q29,q30,q31,q32,q33,q34,q35,q36,q37,q38,q39,q40,q41,q42,q43,q44,q45,q46,q47,q48,q49,q50,q51,q52,q53,q54,q55,q56,q57,q58,q59,q60,q61,q62,q63,q64,q65,q66,q67,q68,q69,q70,q71,q72,q73,q74,q75,q76,q77,q78,q79,q80,q81,q82,q83,q84,q85,q86,q87,q88,q89,q90,q91,q92,q93,q94,q95,z0,z1,z2,z3,z4,z5,z6,z7,z8,z9,z10,z11,z12,z13,tQ,tR,ER,vB,tS⟩:=q;obtain⟨al,ll,cl,kl⟩:=q95;have e:=hfa.symm.trans (mg_of X G al);cases e;obtain⟨fd,F,bF⟩:∃ fd,Q9 K "law" "law" Rf fa fd/\∀ (s:Shared) (v:Value),BindsTo s fd ⟨[v],[]⟩ [("_law_script",v)]:=⟨_,Hw (st:=Rf) ll cl kl,λs v=>.of_eq rfl⟩;obtain⟨g0,MN⟩:=q0.d (ps:=["_law_script"]) X G;obtain⟨g1,Jd⟩:=q1.d (ps:=["_law_src_here","_law_base"]) X G;obtain⟨g2,GH⟩:=q2.d (ps:=["_law_found"]) X G;obtain⟨g3,Je⟩:=q3.d (ps:=["_law_found","_law_due"]) X G;obtain⟨g4,XH⟩:=q4.d (ps:=["row"]) X G;obtain⟨g5,U0⟩:=q5.d (ps:=["row"]) X G;obtain⟨g6,Bq⟩:=q6.d (ps:=["row","start","stop"]) X G;obtain⟨g7,TQ⟩:=q7.d (ps:=["row","start","stop"]) X G;obtain⟨g8,abl⟩:=q8.d (ps:=["row","start","stop"]) X G;obtain⟨g9,qy⟩:=q9.d (ps:=["self"]);obtain⟨g10,TR⟩:=BN.d (ps:=["row"]) X G;obtain⟨g11,yM⟩:=q11.d (ps:=["holes","start"]) X G;obtain⟨g12,Jf⟩:=q12.d (ps:=["start","stop","holes"]) X G;obtain⟨g13,Qs⟩:=q13.d (ps:=["items"]) X G;obtain⟨g14,XI⟩:=q14.d (ps:=["rows","sheets"]) X G;obtain⟨g15,D9⟩:=q15.d (ps:=["rows","start","goal"]) X G;obtain⟨g16,abm⟩:=q16.d (ps:=["rows","sheet"]) X G;obtain⟨g17,Ea⟩:=q17.d (ps:=["item","weights"]) X G;obtain⟨g18,AI⟩:=q18.d (ps:=["rows","sheets"]) X G;obtain⟨g19,MO⟩:=q19.d (ps:=["item","views"]) X G;obtain⟨g20,Eb⟩:=q20.d (ps:=["rows","sheets"]) X G;obtain⟨g21,Qt⟩:=q21.d (ps:=["rows","sheet"]) X G;obtain⟨g22,Qu⟩:=q22.d (ps:=["one","other"]) X G;obtain⟨g23,Ec⟩:=q23.d (ps:=["items"]) X G;obtain⟨g24,XJ⟩:=q24.d (ps:=["row"]) X G;obtain⟨g25,XM⟩:=q25.d (ps:=["items","views"]) X G;obtain⟨g26,Jg⟩:=q26.d (ps:=["items","views","place","others"]) X G;obtain⟨g27,Jh⟩:=q27.d (ps:=["rows","sheet","place","items"]) X G;obtain⟨g28,TU⟩:=q28.d (ps:=["items","views","start","stop"]) X G;obtain⟨g29,Ji⟩:=q29.d (ps:=["rows","sheet","start","stop"]) X G;obtain⟨g30,Ed⟩:=q30.d (ps:=["rows","sheet","start","stop","to"]) X G;obtain⟨g31,Ef⟩:=q31.d (ps:=["rows","sheet"]) X G;obtain⟨g32,Br⟩:=q32.d (ps:=["rows","sheet","ink"]) X G;obtain⟨g33,Jj⟩:=q33.d (ps:=["row"]) X G;obtain⟨g34,GI⟩:=q34.d (ps:=["deed"]) X G;obtain⟨g35,Qv⟩:=q35.d (ps:=["state","sheet","items"]) X G;obtain⟨g36,qz⟩:=q36.d (ps:=["self"]);obtain⟨g37,Jk⟩:=q37.d (ps:=["self"]);obtain⟨g38,GJ⟩:=q38.d (ps:=["self"]);obtain⟨g39,GK⟩:=q39.d (ps:=["self","changes"]);obtain⟨g40,vc⟩:=q40.d (ps:=["self","sheet"]);obtain⟨g41,tG⟩:=q41.d (ps:=["self","moment"]);obtain⟨g42,xQ⟩:=q42.d (ps:=["self","moment"]);obtain⟨g43,GL⟩:=q43.d (ps:=["self"]);obtain⟨g44,Jl⟩:=q44.d (ps:=["self","sheet"]);obtain⟨g45,sj⟩:=q45.d (ps:=["self"]);obtain⟨g46,sr⟩:=q46.d (ps:=["self"]);obtain⟨g47,su⟩:=q47.d (ps:=["self"]);obtain⟨g48,Jm⟩:=q48.d (ps:=["self"]);obtain⟨g49,Jo⟩:=q49.d (ps:=["self","hand","text"]);obtain⟨g50,GN⟩:=q50.d (ps:=["self","row"]);obtain⟨g51,Eg⟩:=q51.d (ps:=["rows","sheet"]) X G;obtain⟨g52,nU⟩:=q52.d (ps:=["self"]);obtain⟨g53,AJ⟩:=q53.d (ps:=["self","deed","changes"]);obtain⟨g54,yN⟩:=q54.d (ps:=["self","deed","sheet","items"]);obtain⟨g55,Bs⟩:=q55.d (ps:=["self"]);obtain⟨g56,AK⟩:=q56.d (ps:=["self","deed","items"]);obtain⟨g57,AL⟩:=q57.d (ps:=["self"]);obtain⟨g58,Eh⟩:=q58.d (ps:=["self"]);obtain⟨g59,tH⟩:=q59.d (ps:=["self","row"]);obtain⟨g60,Bt⟩:=q60.d (ps:=["self","hand","text"]);obtain⟨g61,Ei⟩:=q61.d (ps:=["self","sheet","place","row"]);obtain⟨g62,AM⟩:=q62.d (ps:=["self","sheet"]);obtain⟨g63,Ej⟩:=q63.d (ps:=["self","sheet","start","stop"]);obtain⟨g64,AN⟩:=q64.d (ps:=["self","target","place","source","start","stop"]);obtain⟨g65,Ek⟩:=q65.d (ps:=["self","sheet"]);obtain⟨g66,yO⟩:=q66.d (ps:=["self","target","place","source"]);obtain⟨g67,El⟩:=q67.d (ps:=["self","sheet"]);obtain⟨g68,Bu⟩:=q68.d (ps:=["self","sheet","start","stop","to"]);obtain⟨g69,yP⟩:=q69.d (ps:=["self","row"]);obtain⟨g70,Jp⟩:=q70.d (ps:=["_law_src_here","_law_few"]) X G;obtain⟨g71,Jq⟩:=q71.d (ps:=["_law_src_here","_law_many"]) X G;obtain⟨g72,GO⟩:=q72.d (ps:=[]) X G;obtain⟨g73,Jr⟩:=q73.d (ps:=["_law_world_here","_law_rows"]) X G;obtain⟨g74,Js⟩:=q74.d (ps:=["_law_rows","_law_sheet","_law_entries"]) X G;obtain⟨g75,GP⟩:=q75.d (ps:=["_law_row"]) X G;obtain⟨g76,Jt⟩:=q76.d (ps:=["_law_rows","_law_sheet"]) X G;obtain⟨g77,Bv⟩:=q77.d (ps:=["_law_rows","_law_sheet"]) X G;obtain⟨g78,Em⟩:=q78.d (ps:=["_law_rows","_law_entry"]) X G;obtain⟨g79,MP⟩:=q79.d (ps:=["_law_rows","_law_sheet","_law_place","_law_new"]) X G;obtain⟨g80,MQ⟩:=q80.d (ps:=["_law_rows","_law_sheet","_law_start","_law_stop"]) X G;obtain⟨g81,Bw⟩:=q81.d (ps:=["_law_rows","_law_sheet"]) X G;obtain⟨g82,En⟩:=q82.d (ps:=["_law_numbers"]) X G;obtain⟨g83,Ju⟩:=q83.d (ps:=["_law_rows","_law_sheet"]) X G;obtain⟨g84,GQ⟩:=q84.d (ps:=["_law_world_here","_law_deed_here"]) X G;obtain⟨g85,Bx⟩:=q85.d (ps:=["self","sheet","moment"]);obtain⟨g86,Jv⟩:=q86.d (ps:=["_law_house","_law_deed_here"]) X G;obtain⟨g87,By⟩:=q87.d (ps:=["_law_src_here","_law_world_here"]) X G;obtain⟨g88,BA⟩:=q88.d (ps:=["_law_src_here","_law_sheet","_law_room"]) X G;obtain⟨g89,Jw⟩:=q89.d (ps:=["_law_src_here","_law_world_here"]) X G;obtain⟨g90,Jx⟩:=q90.d (ps:=["_law_src_here","_law_world_here","_law_house"]) X G;obtain⟨g91,GR⟩:=q91.d (ps:=["_law_world_here","_law_house"]) X G;obtain⟨g92,GS⟩:=q92.d (ps:=["_law_src_here","_law_world_here","_law_house"]) X G;obtain⟨g93,Jy⟩:=q93.d (ps:=["_law_src_here","_law_world_here","_law_house","_law_other"]) X G;obtain⟨g94,Jz⟩:=q94.d (ps:=["_law_world_here","_law_house","_law_other","_law_struck"]) X G;have T:Nms mg:=⟨PySem.W.mg_none_of X G z0,wH X G z1,wH X G z2,wH X G z3,wH X G z4,wH X G z5,wH X G z6,wH X G z7,wH X G z8,wH X G z9,wH X G z10,wH X G z11,wH X G z12,wH X G z13,λf e=>(U0.m).symm.trans e ▸ mg_of X G vB,λf e=>(Qt.m).symm.trans e ▸ mg_of X G tS⟩;have G_:Gbs mg:=⟨⟨_,mg_of X G tQ⟩,⟨_,mg_of X G tR⟩,⟨_,mg_of X G ER⟩⟩;have cH:=JZ.d X G qz.mt;have kL:=N3.d X G su.mt;have zW:=J1.d X G qy.mt;have Ci:=N4.d X G sj.mt;have Fp:=N5.d X G sr.mt;have aO:=BL.d X G nU.mt;obtain⟨aZ,br,D⟩:∃ aZ br,Ds K mg aZ br bJ d9 gV gO BK EN:=⟨nth [_,_,_,_,_,_,_,_,_,_,_,_,_,_,_,_,_,_,_,_,_,_,_,_,_,_,_,_,_,_,_,_,_,_,_,_,_,_,_,_,_,_,_,_,_,_,_,_,_,_,_,_,_,_,_,_,_,_,_,_,_,_,_,_,_,_,_,_,_,_,_,_,_,_,_,_,_,_,_,_,_,_,_,_,_,_,_,_,_,_,_,_,_,_,_] 0,nth [g0,g1,g2,g3,g4,g5,g6,g7,g8,g9,g10,g11,g12,g13,g14,g15,g16,g17,g18,g19,g20,g21,g22,g23,g24,g25,g26,g27,g28,g29,g30,g31,g32,g33,g34,g35,g36,g37,g38,g39,g40,g41,g42,g43,g44,g45,g46,g47,g48,g49,g50,g51,g52,g53,g54,g55,g56,g57,g58,g59,g60,g61,g62,g63,g64,g65,g66,g67,g68,g69,g70,g71,g72,g73,g74,g75,g76,g77,g78,g79,g80,g81,g82,g83,g84,g85,g86,g87,g88,g89,g90,g91,g92,g93,g94] g0,T,G_,aO,cH,kL,zW,Ci,Fp,j9,oR,wU,vA,oS,yS,C2,C3,J2,zA,eY,C4,C5,J3,EO,MN,Jd,GH,Je,XH,U0,Bq,TQ,abl,qy,TR,yM,Jf,Qs,XI,D9,abm,Ea,AI,MO,Eb,Qt,Qu,Ec,XJ,XM,Jg,Jh,TU,Ji,Ed,Ef,Br,Jj,GI,Qv,qz,Jk,GJ,GK,vc,tG,xQ,GL,Jl,sj,sr,su,Jm,Jo,GN,Eg,nU,AJ,yN,Bs,AK,AL,Eh,tH,Bt,Ei,AM,Ej,AN,Ek,yO,El,Bu,yP,Jp,Jq,GO,Jr,Js,GP,Jt,Bv,Em,MP,MQ,Bw,En,Ju,GQ,Bx,Jv,By,BA,Jw,Jx,GR,GS,Jy,Jz⟩;refine⟨fd,bF,λzt _ _=>?_⟩;have MR:bq P w K mg zt cM 1 _ _ ["_law_script"] (Ue K):=Iw D;have bW:bq P w K mg zt cM 1 _ _ XN uJ:=fY D;have nV:bq P w K mg zt cM 3 _ _ Ex (Cz bJ d9 gV gO):=tF D;have GU:bq P w K mg zt cM 1 _ _ [] KG:=DW D;have GV:bq P w K mg zt cM 9 _ _ Va (AG bJ d9 gV gO):=D7 D;have JA:bq P w K mg zt cM 46 _ _ Yr (GB bJ d9 gV gO):=GC D (Gx D) (D4 D) (Gs D) (Gv D);have JB:bq P w K mg zt cM 43 _ _ Ys (GF bJ d9 gV gO):=GG D;have gI:bq P w K mg zt cM 5 _ _ ["self","row"] (Ax bJ d9 gV gO):=we D;have oK:bq P w K mg zt cM 4 _ _ zl2 (KC bJ d9 gV gO):=qx D;have ny:bq P w K mg zt cM 7 _ _ Ex (Kz bJ d9):=oX D;have v9:bq P w K mg zt cM 2 _ _ Ex (Aq bJ d9 gV gO):=rR D;have yt:bq P w K mg zt cM 1 _ _ ["_law_row"] (J8 1000000):=wm D;have ua:bq P w K mg zt cM 2 _ _ U9 Gw:=rZ D;refine fG F nT λdm A zn s H vs Q E hr h=>?_;obtain⟨a,ns,rfl,hS,h63,k⟩:=h;have hu:=gT hr;refine⟨_,(aj (aU (i:=1) nT.nd (aC D.dq0 MR hr (aa (pv 0) ah))) (aj (aU (i:=2) nT.nd (mK D.aO.Wm nV (hr.mono (by decide)) rfl D.aO.m D.WG.b .nil bN)) (aj (aU (i:=3) nT.nd (mK D.aO.Wm nV (hr.mono (by decide)) rfl D.aO.m D.WG.b .nil bN)) (aj (aU (i:=4) nT.nd (NB GU (hr.mono (by decide)) rfl D.RZ.m D.RZ.F.kp D.RZ.b .nil bN)) (aj (aT (aC D.aal GV hr (aa (pv 1) (aa (pv 4) (aa (pv 2) ah))))) (aj (aU (i:=5) nT.nd ay) (aj (dN PassesOwn.never rfl (cF (ie hu (pv 4) bH)) (kY (n:=2) rfl (bT (b8 (i:=6) nT.nd) (bT (b8 (i:=7) nT.nd) gC))) (aj (aT (cL (pv 3) D.aO D.RY oK hr bN (aa (pv 6) (aa (pv 7) ah)))) (au (aU (i:=5) nT.nd (bx dD (pv 5) ay))))) (aj (dN PassesOwn.never rfl (gJ rfl D.T.jc (aa (fX D.T.fj (ie hu (pv 4) bH)) ah)) (b8 (i:=8) nT.nd) (au (aT (ff (pv 3) D.aO D.RX ny hr bN)))) (aj (dN PassesOwn.never rfl (gJ rfl D.T.jc (aa (aC D.yd bW hr (aa (pv 1) (aa ay ah))) ah)) (b8 (i:=8) nT.nd) (au (aT (aC D.aam JA hr (aa (pv 1) (aa (pv 4) (aa (pv 2) (aa (pv 3) ah)))))))) (aj (aU (i:=9) nT.nd (aC D.Sd ua hr (aa (pv 1) (aa (pv 4) ah)))) (aj (aU (i:=10) nT.nd (aC D.Sd ua hr (aa (pv 1) (aa (pv 4) ah)))) (aj (aU (i:=11) nT.nd (bx jh (aC D.Sb yt hr (aa (pv 9) ah)) (aC D.Sb yt hr (aa (pv 10) ah)))) (aj (aT (cL (pv 2) D.aO D.LW gI hr bN (aa (cR cS rfl D.T.gu oM (aa (pv 9) ah)) ah))) (aj (aT (cL (pv 2) D.aO D.LW gI hr bN (aa (cR cS rfl D.T.gu oM (aa (pv 10) ah)) ah))) (aj (aT (cL (pv 3) D.aO D.LW gI hr bN (aa (cR cS rfl D.T.gu oM (aa (pv 10) ah)) ah))) (aj (aT (cL (pv 3) D.aO D.LW gI hr bN (aa (cR cS rfl D.T.gu oM (aa (pv 9) ah)) ah))) (aj (bP (aV dR (aC D.yd bW hr (aa (pv 1) (aa ay ah))) ay (bh _)) (au (aT (cL (pv 2) D.aO D.LW gI hr bN (aa (cR cS rfl D.T.gu oM (aa (pv 10) ah)) ah)))) bf) (au (aN (pC (lT dR (ff (pv 3) D.aO D.Z5 v9 hr bN) (pv 5) (bh _)) (qS (aC D.aan JB hr (aa (pv 4) (aa (pv 2) (aa (pv 3) (aa (pv 11) ah)))))))))))))))))))))))))),?_⟩;refine⟨Y,a,ns,rfl,hS,λl c H1 S1 s1 _ _=>?_⟩;intro x dx fx fdx _;refine⟨x,dx,rfl,af,λU H2 L2 fU k2=>⟨rfl,?_⟩⟩;have s2:=j7 fx fdx k2;have S2:=S1.same s2
 have fU':∀ a,U a->H1 a=none:=λa z=>by
  rcases fU a z with y|y
  ·rw[y];exact fx
  ·exact mD y
 intro y dy fy fdy _;refine⟨y,dy,rfl,af,λU2 H3 L3 fV k3=>⟨rfl,?_⟩⟩;have s3:=j7 fy fdy k3;have S3:=S2.same s3
 have fV':∀ a,U2 a->H2 a=none:=λa z=>by
  rcases fV a z with y|y
  ·rw[y];exact fy
  ·exact mD y
 refine⟨rfl,λW w H4 wo4 fW s4=>?_⟩
 have TF:qK bJ d9 gV gO H4 l c w x U W [[]] [] [[]] [] [] [] 0 []:=by
  refine⟨S3.same s4,(L2.same s3).same s4,rfl,wo4,λa z=>⟨λy=>?_,?_⟩,λa z=>?_⟩
  ·obtain⟨ob,e⟩:=(L2.same s3).al z;rw[fW a y]at e;cases e
  ·have n:=S1.ne (fU' a z);exact⟨n.1.symm,n.2.symm⟩
  ·have n:=S3.ne (fW a z);exact⟨n.1.symm,n.2.symm⟩
 have ap4:Apart l c U W U2:=λa z=>by
  have n:=S2.ne (fV' a z);refine⟨λq=>?_,λq=>?_,n.1.symm,n.2.symm⟩
  ·obtain⟨ob,e⟩:=L2.al q;rw[fV' a z]at e;cases e
  ·obtain⟨ob,e⟩:=L3.al z;rw[fW a q]at e;cases e
 have L4:=L3.same s4;refine⟨Y,Y,Y,l,c,w,x,U,W,rfl,TF,λU5 W5 H5 n aI ln5 n2 n4 li ft ll5 UY Hf=>?_⟩;have ap5:=ap4.go Hf λa z=>L4.al z;have L5:=L4.fr (λa ob e z=>Hf.2.1 a ob e (ap4 a z).2.2.1 (ap4 a z).1 (ap4 a z).2.1) Hf.2.2;have lb:=AF n;obtain⟨ik,kZ,ps,vl,wu⟩:=id UY.wo;obtain⟨as,Ge,pa⟩:=id wu.hi;have la:=Paired.length pa;have zi:=jD.k (k:=kI) wu.hw;rw[show cI (vf ik kZ ps vl) kI=some (.ref ik) by kernel_rfl]at zi;refine⟨Y,w,Y,zi,ik,rfl,⟨_,bI.of Ge⟩,dH (K:=K) (a:=ik) (xs:=as.map V.ref) (λj σ H6=>∃ (u6 u7:Option V) (U6:Addr->Prop) (pe:iS) (aB:iT),σ=[some (.ref a),some (.ref l),some (.ref x),some (.ref y),some (.ref w),some (.int (j:Nat)),u6,u7,none,none,none,none]/\oG bJ d9 gV gO U6 H6 y pe aB (aI.take j) j []/\pe.getLast?=some []/\pe.length=j+1/\aB.length=j/\Apart l c U5 W5 U6/\qK bJ d9 gV gO H6 l c w x U5 W5 (uZ n) (e0 n) (uZ n) (e0 n) ln5 aI 2 []/\H6 ik=some (.lst (as.map V.ref))/\∀ a xs,H5 a=some (.tup xs)->H6 a=some (.tup xs)) ⟨none,none,U2,P,rfl,L5,V,rfl,ap5,UY,Ge,λ_ _ e=>e⟩ (λi σ H6 _ h=>by obtain⟨_,_,_,_,_,_,_,_,_,_,_,_,e,_⟩:=h;exact bI.of e) ?_ ?_⟩
 ·rintro j v σ H6 hj ⟨u6,u7,U6,pe,aB,rfl,L6,hl6,lp6,ll6,ap6,wD,abn,tp6⟩;rw[fP]at hj;obtain⟨t,et,rfl⟩:=Option.map_eq_some_iff.mp hj;have jl:=(List.getElem?_eq_some_iff.mp et).1;obtain⟨p,ep,hp⟩:=uO pa et;have ts:(aI.take j).length=j:=by rw[gB];lia
  exists t,Y,cY.of (tp6 _ _ hp),rfl,P,rfl,Z;refine⟨Y,L6.m ⟨Y,Y,U6,y,pe,aB,aI.take j,j,[],p.1,[p.2],[],rfl,L6,ft p (pA ep),(by show 1<=200;decide),Q,Q,hl6,(by show 0<=50;decide),Q,Q,λU7 q H7 L7 QK hq=>?_⟩⟩;obtain⟨TM,Yp⟩:=wD.apart ap6 QK;have ei:aI.take j++pB p.1 [p.2]=aI.take (j+1):=by rw[take_snoc ep];rfl
  rw[ei]at L7;exact⟨Y,Z,P,U7,pe++[[]],Y,L7,jR,by rw[cP,lp6];rfl,by rw[cP,ll6];rfl,Yp,TM,QK.2.1 _ _ abn (λz=>(ap6 ik z).2.1 wu.wi),λa xs e=>QK.2.2 _ _ (tp6 _ _ e)⟩
 rintro σ H6 ⟨u6,u7,U6,pe,aB,rfl,L6,hl6,lp6,ll6,ap6,wD,abn,tp6⟩;rw[cz,la]at L6 lp6 ll6 ⊢;rw[gQ]at L6;obtain⟨ik,kZ,ps,vl,wu⟩:=id wD.wo;obtain⟨xs,hxs,al⟩:=id wu.hr.at_;have lv:=cu.len al;rw[wG]at lv;have zr:=jD.k (k:=kR) wu.hw;rw[show cI (vf ik kZ ps vl) kR=some (.ref kZ) by kernel_rfl]at zr;exists Y,w,Y,zr,kZ,Y,.inl (bI.of hxs),((xs.length:Nat):Int),rfl,Q,Q;refine jZ (lo:=0) (n:=((xs.length:Nat):Int).toNat) (λj σ H7=>∃ (u8:Option V) (U7:Addr->Prop) (pe:iS) (aB:iT),σ=[some (.ref a),some (.ref l),some (.ref x),some (.ref y),some (.ref w),some (.int (aI.length:Nat)),u6,u7,u8,none,none,none]/\oG bJ d9 gV gO U7 H7 y pe aB aI aI.length []/\pe.getLast?=some (e0 j)/\pe.length<=121+j/\aB.length<=121+j/\Apart l c U5 W5 U7/\qK bJ d9 gV gO H7 l c w x U5 W5 (uZ n) (e0 n) (uZ n) (e0 n) ln5 aI 2 []) ⟨none,U6,pe,aB,rfl,L6,hl6,Q,Q,ap6,wD⟩ ?_ ?_
 ·rintro j σ H7 hj ⟨u8,U7,pe,aB,rfl,L7,hl7,lp7,ll7,Yp,TM⟩;have l0:(e0 j).length=j:=wG;obtain⟨S',UM,d',UA,Tw,Yi,Yj,Yk,Yl,Ym,Eo,Ep,dw',sg',ow',pw',db',tb',DS,LU⟩:=id L7;refine⟨Y,y,d',Y,LU.L.hx,rfl,S',y,d',UA,Tw,Yi,Yj,Yk,Yl,Ym,Eo,Ep,pe,DS,aB,e0 j,rfl,LU.L,hl7,Q,Q,Q,Q,⟨⟨_,by rw[zb];exact GA ∅⟩,λS'' H8 L8 C7=>?_⟩⟩;rw[zb]at L8;obtain⟨U8,XA,fu⟩:=LU.ko L8 C7;obtain⟨TV,ap8⟩:=TM.apart Yp fu;exact⟨_,U8,P,rfl,XA,jR,by simp;lia,by simp;lia,ap8,TV⟩
 rintro σ H7 ⟨u8,U7,pe,aB,rfl,L7,hl7,lp7,ll7,Yp,TM⟩;rw[Int.toNat_natCast,lv]at hl7 lp7 ll7;refine⟨Y,l,c,8,rfl,TM.src,E,E,λv H8 v0 v1 S8 k8=>⟨v,rfl,Q,Q,?_⟩⟩;have TV:=TM.mv (bY k8) S8;obtain⟨ls,hls⟩:=TM.src.lst;have L8:=L7.fr (λa ob e z=>bY k8 _ _ e (Yp a z).2.2.1) (λa xs e=>bY k8 _ _ e (cV e hls));refine jZ (lo:=0) (n:=v.toNat) (λj σ H9=>∃ u8:Option V,σ=[some (.ref a),some (.ref l),some (.ref x),some (.ref y),some (.ref w),some (.int (aI.length:Nat)),u6,u7,u8,none,none,none]/\I49 bJ d9 gV gO l c w x y aI j H9) ⟨u8,rfl,U5,W5,U7,_,pe,P,aB,TV,L8,hl7,Yp,by rw[wG];lia,Q,Q,Q,Q,TN ∅⟩ ?_ ?_
 ·rintro j σ H9 hj ⟨u8,rfl,U,W,U2,pe,Bp,rows,aB,gF,St,L,hl,ap,r2,b1,b2,b3,b4,gd⟩;have j8:j<8:=by lia
  exact⟨Y,Y,Y,Y,l,c,w,x,y,U,W,U2,pe,Bp,rows,aB,gF,aI,2,aI.length,[],rfl,St,L,hl,ap,Q,Q,Q,Q,Q,Q,gd,λU' W' TL M9 Qp rows' dG sX H' St' L' tX ap' rl' c1 c2 c3 c4 gd'=>⟨Y,U',W',TL,M9,Qp,rows',dG,sX,St',L',tX,ap',Q,Q,Q,Q,Q,gd'⟩⟩
 rintro σ H9 ⟨u9,rfl,U,W,U2,pe,Bp,rows,aB,gF,St,L,hl,ap,r2,b1,b2,b3,b4,gd⟩
 have tk:∀ {H1 H2:Hp},dB H1 l c->cB l H1 H2->∀ a xs,H1 a=some (.tup xs)->H2 a=some (.tup xs):=λS kk a xs e=>by
  obtain⟨ls,hl⟩:=S.lst;exact kk _ _ e (cV e hl)
 refine⟨Y,Y,l,c,w,W,aI,pe,rows,rfl,St.src,St.wo,St.dw,Q,λr1 tK HA l1 jP d1 f1 SA KA=>?_⟩;have n1:=St.new f1;have StA:=St.mv KA SA;have LA:=L.fr (λa ob e z=>KA _ _ e (ap a z).2.2.1) (tk St.src KA);refine⟨Y,Y,l,c,w,W,aI,pe,rows,rfl,SA,StA.wo,StA.dw,Q,λr2 sF HB l2 Fv d2 f2 SB KB=>?_⟩;have n2:=StA.new f2;have StB:=StA.mv KB SB;have LB:=LA.fr (λa ob e z=>KB _ _ e (ap a z).2.2.1) (tk SA KB);have abo:=jP.two (λxs e=>KB _ _ e n1.2.2.1) (tk SA KB);have q1:=wj (k:=40) (row:=tK) λp h=>(d1 p h).2.2.2;have q2:=wj (k:=40) (row:=sF) λp h=>(d2 p h).2.2.2;refine⟨Y,r1,tK,rfl,abo,(λp h=>by have:=d1 p h;lia),Q,Q,λm1 HC hm1 sC fC=>⟨Y,r2,sF,rfl,Fv.same sC,(λp h=>by have:=d2 p h;lia),Q,Q,λm2 HD hm2 sD fD=>?_⟩⟩;refine⟨m1,m2,Z,sD _ _ hm1,hm2,(by rw[cz,cz];exact gM (aR ∅)),λkk hkk=>?_⟩;rw[← gy];have sE:=ak hkk (.lst ((bu tK++bu sF).map V.int));have hE:(aM HD kk (.lst ((bu tK++bu sF).map V.int))) kk=some (.lst ((bu tK++bu sF).map V.int)):=af;generalize aM HD kk (.lst ((bu tK++bu sF).map V.int))=HE at sE hE ⊢;have z1:¬ U2 r1:=λz=>by obtain⟨ob,e⟩:=L.al z;rw[f1]at e;cases e
 have z2:¬ U2 r2:=λz=>by obtain⟨ob,e⟩:=LA.al z;rw[f2]at e;cases e
 have sBD:=sC.trans sD;have zk:¬ U2 kk:=λz=>by obtain⟨ob,e⟩:=(LB.same sBD).al z;rw[hkk]at e;cases e
 have nk:=(StB.same sBD).new hkk;have sBE:=sC.trans (sD.trans sE);have StE:=StB.same sBE;have LE:=LB.same sBE;have abp:=abo.same sBE;have TX:=Fv.same sBE;obtain⟨sh,g⟩:=gd.UU;have l40:=g.ln;obtain⟨as1,ha1,pa1⟩:=id abp;refine⟨Y,StE.GZ.m ⟨Y,r1,Y,.inl (bI.of ha1),λq hq=>o6 StE.GZ pa1 l1 d1 ∅ StE.lst ∅ ∅ ∅ g.sn (λUF anE HF llF LF frF=>?_) hq⟩⟩;obtain⟨StF,frS⟩:=StE.Ti LF jR frF;have apF:=ap.go frS λa z=>LE.al z;have LyF:=LE.fr (λa ob e z=>frF.2.1 _ _ e (ap a z).1) frF.2.2
 have ofE:Off (λa=>a=r1\/a=r2\/a=kk) HE HE U U2:=by
  obtain⟨O5,ha2,_⟩:=id TX;refine⟨λa z=>?_,λ_ _ e=>e⟩;rcases z with rfl|rfl|rfl
  ·exact⟨_,ha1,ha1,n1.1,z1⟩
  ·exact⟨_,ha2,ha2,n2.1,z2⟩
  ·exact⟨_,hE,hE,nk.1,zk⟩
 have ofF:=ofE.one frF;have snF:=g.sn.D8 (Dl tK);obtain⟨O5,ha2,pa2⟩:=ofF.row TX (.inr (.inl rfl));refine⟨Y,StF.GZ.m ⟨Y,r2,Y,.inl (bI.of ha2),λq hq=>o6 StF.GZ pa2 l2 d2 ∅ StF.lst (by rw[cz];lia) (by simp;lia) ∅ snF (λUG anH HG llG LG frG=>?_) hq⟩⟩;obtain⟨StG,frS⟩:=StF.Ti LG jR frG;have apG:=apF.go frS λa z=>LyF.al z;have LyG:=LyF.fr (λa ob e z=>frG.2.1 _ _ e (apF a z).1) frG.2.2;have ofG:=ofF.one frG;obtain⟨O5,ha2,pa2⟩:=ofG.row TX (.inr (.inl rfl));refine⟨Y,LyG.m ⟨Y,r2,Y,.inl (bI.of ha2),λq hq=>o6 LyG pa2 l2 d2 ∅ hl ∅ ∅ ∅ g.sn (λUI anK HI llI LI frI=>?_) hq⟩⟩;obtain⟨StI,apI⟩:=StG.apart apG frI;have ofI:=(ofG.flip.one frI).flip;obtain⟨as1,ha1,pa1⟩:=ofI.row abp (.inl rfl);refine⟨Y,LI.m ⟨Y,r1,Y,.inl (bI.of ha1),λq hq=>o6 LI pa1 l1 d1 ∅ jR (by rw[cz];lia) (by simp;lia) ∅ (g.sn.D8 (Dl sF)) (λUJ anN HJ llJ LJ frJ=>?_) hq⟩⟩;obtain⟨StJ,apJ⟩:=StI.apart apI frJ;have ofJ:=(ofI.flip.one frJ).flip;have m1:(rows.map (jm (Dl tK))).map (jm (Dl sF))=rows.map (jm λa=>decide (a∈bu tK++bu sF)):=map_two (λa=>by rw[Bool.or_comm];exact Jc tK sF a) rows;have m2:(rows.map (jm (Dl sF))).map (jm (Dl tK))=rows.map (jm λa=>decide (a∈bu tK++bu sF)):=map_two (Jc tK sF) rows
 have m3:(rows.map (jm λa=>decide (a∈bu tK++bu sF))).map (jm (Dl sF))=rows.map (jm λa=>decide (a∈bu tK++bu sF)):=map_two (λa=>by rw[← Jc];cases Dl tK a <;> cases Dl sF a <;> rfl) rows
 rw[m1]at StJ;rw[m2]at LJ;refine⟨Y,l,c,3,rfl,StJ.src,E,E,λv H8 v0 v1 S8 k8=>?_⟩;have TV:=StJ.mv (bY k8) S8;have Ly8:=LJ.fr (λa ob e z=>bY k8 _ _ e (apJ a z).2.2.1) (tk StJ.src (bY k8))
 have of8:Off (λa=>a=r1\/a=r2\/a=kk) HE H8 UG UJ:=⟨λa r=>by
  obtain⟨ob,e0,e,n,m⟩:=ofJ.1 a r
  exact⟨ob,e0,bY k8 _ _ e (by rcases r with rfl|rfl|rfl <;> first|exact n1.2.2.1|exact n2.2.2.1|exact nk.2.2.1),n,m⟩,λa xs e=>tk StJ.src (bY k8) _ _ (ofJ.2 a xs e)⟩
 refine⟨rfl,Y,cW (λ_=>?_) (λ_=>?_)⟩;obtain⟨O5,ha2,pa2⟩:=of8.row TX (.inr (.inl rfl));refine⟨Y,TV.GZ.m ⟨Y,r2,Y,.inl (bI.of ha2),λq hq=>o6 TV.GZ pa2 l2 d2 ∅ TV.lst (by rw[cz];lia) (by simp;lia) ∅ (g.sn.D8 _) (λUZ anO HZ llZ LZ frZ=>?_) hq⟩⟩;rw[m3]at LZ;obtain⟨StZ,_⟩:=TV.Ti LZ jR frZ;have LyZ:=Ly8.fr (λa ob e z=>frZ.2.1 _ _ e (apJ a z).1) frZ.2.2;have ofZ:=of8.one frZ
 rotate_left
 have StZ:=TV;have LyZ:=Ly8;have ofZ:=of8
 all_goals
  obtain⟨ob,e0,e1,_⟩:=ofZ.1 kk (.inr (.inr rfl));rw[hE]at e0;cases e0;exact⟨Y,LyZ.m ⟨UJ,y,P,aI,aI.length,[],rfl,LyZ,Y,rfl,Y,cW (λ_=>⟨Y,Y,Y,Y,_,UJ,W,x,y,w,kk,P,pe,P,aI,aI,2,aI.length,[],rows,sh,Y,StZ.GZ,StZ.lst,by simp;lia,LyZ,jR,by simp;lia,StZ.wo,g,e1,by rw[cP];lia,λH' _=>k H'⟩) λc=>absurd (decide_eq_true rfl) c⟩⟩
end
end gx
theorem PySem.Challenge.cw_inkroot_k49_whole_strikes_commute_holds : PySem.Challenge.rw_inkroot_k49_whole_strikes_commute.Holds :=
 InkHd.hd2 gx.all_mk
