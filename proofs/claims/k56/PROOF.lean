import PyProof.Rows.All
import KE.KIntText
import KE.KTryMore
import KE.KDictLaws
import KE.KItem
import Open.Pieces
import KE.RegKTryMore
import OpenK.KOwn
import KE.KItemsList
import Lean
import PyProof.EqAt
import PyProof.EqKinds
import PyProof.TupleCall
import PySem.Challenge.RW_inkroot_k56_whole_dues
set_option compiler.extract_closed false
set_option Elab.async false
set_option linter.all false
set_option maxRecDepth 100000
set_option maxHeartbeats 4000000
abbrev gT:=List (List (List Int))
abbrev dD:=List (List Int)
abbrev gS:=List (List Nat)
abbrev fY:=List (Int × Nat)
abbrev Fc:List PySem.Str:=["self"]
abbrev Z4:List PySem.Str:=["self","row"]
abbrev zl2:List PySem.Str:=["self","address"]
abbrev WX:List PySem.Str:=["self","sheet"]
abbrev zl4:List PySem.Str:=["self","hand","row"]
abbrev zl5:List PySem.Str:=["row","start","stop"]
abbrev zl6:List PySem.Str:=["rows","sheet"]
abbrev zl7:List PySem.Str:=["_law_rows","_law_sheet"]
abbrev zl8:List PySem.Str:=["_law_src_here","_law_world_here"]
abbrev zl9:List PySem.Str:=["_law_src_here","_law_world_here","_law_house"]
abbrev b8:=@List.length_map.{0,0}
abbrev cY:=@List.length_append.{0}
abbrev gm:=@List.map_append.{0,0}
abbrev fF:=@Nat.le_refl
abbrev j0:=@List.mem_cons_of_mem.{0}
abbrev nT:=@List.getElem?_eq_getElem.{0}
abbrev mC:=@List.mem_of_getElem?.{0}
abbrev oS:=@PySem.F.plainAttrs_list
abbrev kB:=@List.getElem?_map.{0,0}
abbrev kH:=@List.length_cons.{0}
abbrev iA:=@List.length_singleton.{0}
abbrev gP:=@Bool.false_ne_true
abbrev gI:=@List.length_take.{0}
abbrev jE:=@PySem.F.slot_list_append
abbrev jF:=@PySem.F.type_list_append
abbrev gQ:=@List.take_length.{0}
abbrev iF:=@List.size_toArray.{0}
abbrev ir:=@List.append_nil.{0}
abbrev j3:=@List.concat_eq_append.{0}
abbrev i7:=@List.flatMap_cons.{0,0}
abbrev iu:=@List.map_cons.{0,0}
abbrev lY:=@List.eq_nil_or_concat.{0}
abbrev gV:=@Nat.le_of_lt
abbrev mP:=@List.mem_append_right.{0}
abbrev mQ:=@List.getLast?_concat.{0}
abbrev j4:=@List.append_assoc.{0}
abbrev nC:=@List.mem_append_left.{0}
abbrev iG:=@Nat.le_trans
abbrev j5:=@List.foldl_cons.{0,0}
abbrev i9:=@Nat.ne_of_lt
abbrev qv:=@List.take_of_length_le.{0}
abbrev yo:=@PyProof.Rows.boot_isinstance
abbrev tR:=@PyProof.Rows.boot_list
abbrev qw:=@Nat.lt_of_lt_of_le
abbrev qx:=@List.mem_cons_self.{0}
abbrev oq:=@List.length_nil.{0}
abbrev qy:=@List.length_drop.{0}
abbrev uN:=@List.map_congr_left.{0,0}
abbrev nE:=@List.map_map.{0,0,0}
abbrev yp:=@List.drop_of_length_le.{0}
abbrev qz:=@Option.some.inj.{0}
abbrev mR:=@Nat.zero_le
abbrev yq:=@List.length_replicate.{0}
abbrev v9:=@PySem.W.mg_none_of
noncomputable section
namespace PySem.W.Fast
local macro_rules |`(universe $i*)=>do return Lean.mkNullNode (←i.mapM fun x=>`(theorem $(Lean.mkIdent (.mkSimple s!"tw{((x.getId.toString.drop 1).foldl (fun n c=>n*62+(c.toNat-(if c≤'9' then 48 else if c≤'Z' then 55 else 61))) 0)}")):ident :True:=⟨⟩))
universe a6J2TMbemAgM aJ0L6tOYVp0M aDN7EQr8WHqP aEDjYGBoEOos a8q8xEC7Cixt a6e3Uz2WyN3Z aIwfLnh9YysN a1gKAl4AkJ50 aIDmqLuDxX8P aFq5CsI3btFE aCyudzvFtEIX a1MfY6xGLpew aIA4IBqrNXUl aHRPDURpVBNI aIlIbvE7HK04 a8BQw8I0d21O a3flKGtvBfbp aAQBczFqOVtO aL2ERITrrFBr a4MybOZaiPS3 a7brTL5WM8JL aErtbZnUNsOB a5VLQD3ZfUix aGmdsSamTFPG a8WRHZuBM4T6 a2AU1q9E7DZo aHYDoeu6a9q5 aLFUNuOTPEA8 a9OEXCydRc0z a3cv7CkogPIE aHt7kLayRgvR aBqNK8kMuF8W a1LFlaXMWyR7 aIKgrUTlx9Bu aId335kTc0bu a4knTXr4ds8 a5uMw1UPrADr aGt6XZ1drgH8 a8CSl4oVDAnZ a6dYWWbXlQ72 aHGnsdpvYuv8 a22zEKmPeKMc aJM3fMrEOLwC aHN7arb8CF8z a7lVrMH3a3Qh a9kcE6GAWyoC a65lWbwQjdTO aFhDQPM6s9iR a7LtRADLj5j2 a9vJo9xxgy01 a8haSDyt5cTM a3UCFkXva9Vw aGB7uRv8z8tK a2LWBuTxx1Ye aBrvjbkeDeJT aCkQGN85Mr39 aIqak2yNqtuI aECvz7zMqu17 a1sAqF5aFcDi aIL1ki4xTHz aCVbjaVI7rZ8 a1OcmaU6Uh4j aHKaCZiaPZlr a2SSESUulZ6T a7Hxsv3JVJPw aHykL4kVbUI a5nWUIwfhFRT aFm6jTh58zSc a2WsnloRMOUE aEBPetHCWiCl a5oDwsawI3Xi aFyZZaDvEcik aBJEcKhAWJYT a4XeL8KkMZCO a34xUnWZsbha aA15cOACu9go aYKc6CFoPGj a6ZejRaemuVE aDLFge3k8cUw a8PBQefiAvfO a6EkFvuHbOoE aJESXd5vPYke a1YpRiY4z0SO aB6bOe78Vz5M aCDUCo4ykN9E a539bW3pfZA7 a4N9l22s3lrv aV8Lg9QCJ3U aDGuykYfea6 a2u5EEANeV5M aKRZJHTjrgG a9SXqFKU2Z2L aFwdumNYl4pP aKMBkD4WtBi9 askOWjhblGH a8WAMAyjgsYM aDqKP6s1fLrY aD2PWebGLgWb aD9hi9ekvgPi aAKqd7gYyoyF a39dbgojdMXW aAyDg8ZIRRU3 aCy5D8OHKN6I a2cOZsOCztDr aADAYtQDdd1R aLy2cVw6qChq a3qgUZMQWuTI a6zyAlQvqvuC a8G9rxke9ija a9CfMQEYGaHF apwVE9ILxgS a8ysCv4yQDAh aKj9qfSJ4UCj a3KULUAlTyqS a8aEXoj5qrgz aLFoGVA4KM12 aLHqlaY84R4I a9Jawtkym8w0 a63uOqIEFBFS a5iK8M9p3Cl3 a8HqfgRDVCH5 a4l14JGF6q5W aLvCEJOEknNs a293IGcJyiNY aKEf1EZ5vAmJ aJ0KSy7dxF0X a33ki8mIsK0l aAAkFdUKwOaA aGYBkDXaOJZc aH13uqjrq7lN a9bQzMtmqG5F a3IsqBipWVRF aEXNEd27pDsz a6LARdXHm6nz aHjP6lOtXBLf a8Gu5rz2TefI a1uNSgZ9RFKN aDUB7Ba9NFNb a16aTlL8HPkQ a6zpj9yrrodf a2w1tTyM6aC1 aFqN1Iz4koyJ aJi1EDM4zDeN aCvJDdJKXoMD a90N8tdU5Y2m a8dT3SY09fN2 aJmhBV3Pzunp a5ZjOGNV21TY aEiPaTHmkohb a2ocqKR6Hw2y aKeDsYnp7V9C aB4WwK8riHtG a3wgvoXI4lLD aKylmXmoEKg0 aAlDta2kLDt4 a4lMr0ShL8Qk aAFdymw34O3w aIUhYJgTmM6t aIm0dUHTx8Ao a2EUqJhCPRv8 a4xCpTXuDuaB aLgvaGw9SX4g a76qnoLvPgp3 a3hmR3BtvGEG aEwz4jINhAYa a1U8dEahqyuU a74G7CM6sdDc aCoY1qj7l50W aIqNI0M0e31K a9yIbfMgFlvs a3vtG1t53Hsc aFNe10WrKPFG aFbp9OxgEzj1 aAVEenn7mQWT aA8CH0RiNKm4 aENMyxLdrbEU a1UquTv9rmGD a9kX9IxMVI6X aKHvH8SthnIM aCpPhg31uomm aG7ToezDBQ5g a6vPzeHdJ4dX a2SjvH7kF03v aFAUnKpFAM5q aHZ5f1zoUjlq a5irbafAvjzg a6m94mb0KThl aIda0gfWcc6 aBfNF5qxzNPz afi2OdU07pS a3JB3kzAat2L aKk7Ccs3WAaD a1cpdOnxBFD2 aDFyb8HJQWhm a3sXJGuVNLGB aFVXzCRu6dhz a1hCquvYstMj a1zPJozSRki4 a5Kz3CegPmUs aFuLYZ6PJ5xT aBzIcUguDwp4 a32BVQprB5oY aJSIi1LVcbiL aFhKKOqj7mtR aGn7kFdSy0Wt aJLtRhJQltLI a1zyTGJ1NKzU a17840HZ2lDm aE4nY49fNc3I aDojrz235Ilc aDaGu7H6j8aN a7xbZQN3jNdL a18tWOPaQFZc a9rtmVdUA5tt a6E9uypcyLXL a1U9nEpFjyHc aK5BvJnod5lW aAe5LkjQOZOL aCXIPdXL48M9 a3idKGtMPiiw a3ngWtnON6qk aKbcCvokNnRY aEan3IIvbtNN aBWoIykhkjYM a6kwkyMPs6sK a3TEmuz8gTFM aEoQveSf2ORB a4T8kHKFUgLG a7XdYWmOIjvC a7iFwSdFM0hU a6Ow4IU8stbT ah1UKLOcqpP aHJ0YsKusHfV aHGEzyfDBDul aKPYYEFh5SiZ aC04a9ghoaVV aBtoSU3QOsRx aIH0oDZiAUoQ aJinHKfNeAkX a1iPc80mNtEc a7twvEChxGqF aOvNi2yAvMe a79FtqQA1que aCJk8qTGOeMX aK8rMrpo3w7a a5ndKnYwWHAh a5kO97lKZAY0 aJrLWjZxqD6a aA1f5dkdwFXU aAS5tqXNWXJm a8JBqHuBgWEN aAlfkPeD271o a9zVx3cFh5YR a2eqHGovo9wx a7xVu0iS4OVE aJjIXw6kCxzh a2nRLpNUBcnj a1ujntXKLpmK aGiI0MnM59mc aDPS4vxQVvFU aHZAnOKi3JrR aL4iOBTIESdl aBUUW1rDdBC5 aLasSjxz3YO5 a9cAGJ3UdZAO aKKfwZzEBT3h aJyXTZT1yN3F a5Ccou8oDbRb aIfKXV16eUlN aBUx4JPcDoJe aIXdExPT2HMm a4UYyRfhH1dF aKRkTkz7cvHg aC6SPVEXECxd aFI9fvrj61H5 a4yjwjRQixUd aclyStsGn3f a2Dv4wfCqUgk aL8ROqav9JKB aDkfnVPLn5E1 a14LHhq9KJM2 aGWz7K9qwnMb aYYRIPl1vlk aA92cs0Y64t9 aATdZiSJwUPt aKRqLbv3fUKs aA0i9lDMskve aFZVUl1Nve2Y a9CoE0UHqKr6 aG4Z5vlA5U5X aLDZUsUk1mf6 aH7nvWTmNOtJ aHaaUo2sqsjA aJbd4MBvSZ31 aCPwq2EC1d8x aCfkXnD6QoWT aFKzKwjEmwD7 aDKHTjMk2BP6 a6edEngvuoXB a4KvwO8N2hbq aIaI4G022qqM aLv8pFKNrppw aDSMd1RVYWhC aFIji9SvDsAh aHnprUgK2sjS aJUGTv2Ptnjf aDzzcBkahYb8 aHvogg7ETKbh a3g2rfG6dZXi a77rn1dGa8Hb aBPm0OeUyJBH a2bNt3hf0xP3 aDeUnV5SUHNy a4TxJDntEOPM aFE5IH8OBEsC a5Gh0AXcas2f aB3AAC8ZwCpD aG64pYaLDg1v aFoPCWwqN6Br aE5OCtY0FZmd aDeFnGali6t a13OQWGIcGar a8jeE31ZwUWP aJRNZLLnAmzA a6onAm4NhMdF a3goJjph5xXO a5rFPgxXbEUd aD5T2rfPuvjm a6n28tP852v7 aDGxghx18nEv aCYT05r4AYx7 aFwgokdmYztt aIzfLLTV0hBS aAjiT6HpStPK aKof8UbSJsD7 a4ArGmEQB4h0 a2VI821FSigN a8O81JLVdE7b aL9Y4K57rl1I aGlNvPyAjn7y acu23Jt7XJ0 aJkWp1vrETcN a4zFHeEDcuA4 a3ABvrJQZESs aIV1Wd2g3RJG a27tMQEu19OK aFG42Chm4Sub aLViJiOvvY4z alnyD9t7Gs8 a1xiP7si1Mtr a9zR1DJNwpmN aHUjC1fqFgHG aBGhOzeCQXV8 a5RPbwujNlRs aLXxpVJJPoZL aJJJQBgl6YX4 a12e3r3ftd77 a8TMKIHHOopK aKu0oSMt2PHY aALsJTLyzVHb a5Z5QAGPACqD a64zZcdlQBIx aCcp5mIwytVr aBj2GiPAcdeX a36srGBLvGKW aEOsrhVNK2UV aASjNnMPwFHa a8CXVZCEQ1Yn aHhgJ77BZ31M a5kFZnjJmRvp aBdUkNjctX0H aFyvDarehexl a3HkOphRYCwu aF7sLRa6ZWPA a26NvKPQrMP0 a9JDOlIts2Kr aE5VCJOzk1gF a5uU2KZ6FFRB aJuepIsMBhw1 aDlsmV5B1963 aDvvXPiGx8zI a7V036JzTRkD aL4X4lQI2VC1 a4KFGFdHeQHC a53j3vEsOYGh a43Wqd2saSLw aKFzVSYVCyiH a9TQKebuGaHH aDTIA8HOxkCJ a73g8BQhOxe1 a8BHsOOsRrZ2 aCzJfvvv4HQC a8dt52mSBA7w aIqdL21uSiZz aEFfJHQCTrVP a9ICxQTZChFF aI4EUiUjp1YN a8hGb10njiya aLDt4di24egD aG2vqJjX6mdn aD8xi4x8joNl aL7QmFpNxA8C a1OylJAzsqGP a8pavcgNCIEK aGiFgCG76SDS aBXy7ItxlBYS aDDNJX2igFl2 a5ZdUOhBRKbe aFA4HDdGXCy4 aEnLZpbplCkr aDaSMa08teoY a9380iSkH4yi aCtC5m2pnllg aGJ3q4buakfL aabopkeujwC aJQSP8HyBhkq aLOqIgQEC9o7 aKilbY9CfHUc aAwpKE60mDJb a3jNnBbOgNlH a9g2vfI6bTiK aCRT4DM3hQtg aAKIHCmWw6pn a32oHQTu4DsT aELMDyANC6TQ a47aUeT5OjYz a3V3KmuNjQIb aIMdMTzObihc aDgqGh51A4A8 aI9ohxEDKZ9m a25IiqWfZxTp aHPPjV6lLtCP a4sjL2jF9qwX a51Pn2O56xLg a9afL6WFc0Sw aJ2klRj8bwCt aCkMrVlkXxmW aJYwU5mEA8Rn aEAdif2oSEWg a8HYkJBaVJtN a9qDVKENVSnI aKIRN0npLNML a6kuDRUm6YH4 a46iG6jFSERd aFtQeJYk2A5g a274NtBt10NW a4XGWZ7TyOpG a8iiBILsujQg a3PDGTqskB4l aFq7yJAdnpkT aLn04lKBhTiu aJaoGIDMiNst aLXVdmKmijAl aDxrkA4iaLUK aJP0wF3BJzQB a88z8Y35ntcK a4zYNzAziIWI a5Nz5EqENDl6 aETH1RKaqAsv aJxACR81X7B7 a3LcDeHMZgVY a438a8yGPeO8 a6pPm7eS4OxN a9d3kuJjeW87 a1sJuyUySQxF a2G0TnVRmtQf aH9byXjaruM2 aliZgoM2lJS a31QmdIzA28O aLIOq2SjVjMI a6H1ylUsRFhj aGN7alOUMJWA aJZZkm7tRPB4 a7URKwVafMYC aDeXmNFU9CAa a3cKdNSP53JX aFTMJeFpyDQP a533uFtTjOH aAHpvAxWIjFZ aHHB8DsdcTS1 a9jfWqfiyKGp aLEJG9EStugD aHJRLVwtfAuL a9NrixiNx13Z aDRT20foTOp2 aUoDgDB6jH6 a1aEpJhTW9NE aBGBqdwp17H8 a77QERRI0OKX a8sZOrNUNPT0 aDKDqssaRIFm a1uZ86z0O1IA a2Fs1ir9X6wN aLS1m0WYrdKl aF59jqiJRph4 aJQCyMFZaGqx a9tYZSfl7VaD aBdOhQWVS7Y0 aDMUqVhQMtEm a889epCaikm0 a7WMM6IlZ51K aDYU9b5RHkFj aFIt2So1EOxA a8PNva6BFGLA aIKlonTuLAR1 a7VMZ8oYs79v aDRHunR1EysF aIh5uTVzQL41 a3ztXoeQ50HC a9DlPSB1YFmT aHsq4o5fqpcn a1C4KVlsZftd aA6pyBGWXQTt aGeHkjAXxCg7 aIexjd9KGkyB aJzfcmjZwTfV aJ3iwgyHHCE6 aE8XY96OmtXZ aDJVV8x8abpx aFu8duLH7sIC aFJqz7wskLCS aEU0mnPwSKsr aECctV4WW0hC a1bwPUQqxhBQ aJpxaAHGOyss aDFsRgz0qTt8 a6BjgzRNjBhV a5IBGUDKAdwh a6bTCQOSukSb a1pFhrm7yUeW a9lwRgIvANwG aA3LuIh4e479 aLPyeltQO3Nd a8MnJNixAISk aECy10NZotGx a6FLtzJmbnLF a5FGc7yoicOg a4uLrakruRW9 aIeWIfhXaJtX aApein349ROW a8MZGHY8wt0a a866SnqYcSLd a9ve48BxdcJY aKhYWfZUU2AF a7YkzZjkp4p1 a4wP7FMaYFYp a659RRNImPEw a9GrZdMMUHIx aH6yFDtKkf1N a1W3Mkd6zLuf a19obwqSR3Ox aDW6QB1j7QY6 a9GbtMWv3b6I aDlBfUcqgjrE aBiPy9xUUA6K aDLntNhqyqq8 a3vtPgGrh92k aF4tuWL9wMa9 aGO7pl0ofWCR a2K3KQna61Mb aBYchO4xg7sg a6jJKztNwVeX a6nq21XIw0oP a3B0oJuxIFdt aK1so2yZl1P5 a8QNCwXiW28K aCjlE4wWWDrQ a11nt9OZrZFL a7NXiulCAzJY a5lP4oeaURWP aGayMXCDZWL6 a7PI4jgRZCcf a9hj7CAe6RMT a97bbERGuI83 aCcv64E0BZ71 a1zNnbbQ4cRY aLM3RqALitjB a60DDfK5HV8F aBmApKLrAuXN aK2hSpcxSJ6Q aJu6dUzuo7UI aBLpSLaQta1A a9ApZQVYODc7 aDDIfaeoOChA aCmkwimZbJKn a7KVVw5NiTTO aIi8tRyoy6FR aCuptiYpQNli aFFsQM8bUtaM a6YpY7LO0X3m a7pPvdlNxzW4 aFZ23bYTEUV6 aDJvfDz0n4Zd a11yI0cXYqOa aKpsQj9yduX4 aA61mtwTEyBm aBmAqkWUY3Bz a7rHykKXyCKP a7C1R0ZlmQvO a5s5XXhyHSGx a3BBmQ6ubCU5 a2vs9J8UxuVQ aIxHOV2lWGXk aFl9BrXWHMJJ a6d4tf1FvfaQ aG1D8t7vZBCD a85vmY5VkKJe aLrJo5FS2iUm a4rYcOM86Hit a1ssuOu5uUj4 aBQDTATpjS5q aEPFcIZpWS3U a39yzWm4eHq4 aIYSmHo2Dirb aAVau1VmNxZ5 aIqeCgtNP4YQ aDDRyVmV7b0H aA6pzXralytn a8V4JVBvQIox aBLXdHE7gTpH aNhk04s9pqV aJi7D0OhID8s alwfFWVlx9W a3fqWe8dKkPW aKsERQqIZVx aF11VAo4BFgK a7IH5tajrjmn aJlBccUAYxbe a4ozkIITRMVW a8woYqVWNISs a5TsUz4nV9fq a4J8KqXC0RbF a7ItbdXsMDsd a5mCv6vVSLFP aKSDOIw3L00J aI5TgtCfExZB a56kM30XmUVK aJN33GURUccd a7c1h2u2ywoo aEbwcJkfrHaV a8pYCAjk2vjo a4BN2hCR92EZ a20LadsjgmyX a22MtAOASIHn aBAgeOVDwvX2 aDEL3TxgO1pL a6zdoiLHxN8o aKTzaFKBqMNL aAdvc95IkvNk aKm5YLVvUCxS a8tXxBjTr4M5 aEXil1XveCwI a61dcGzzuLio aB3X1BZ1NypL a5KnoDF3dXTs aH3ntAPkpXFY aLwZKIu2oKc7 aHUI6joQBwC3 aAPpqSA5BnV3 a4NvCUGKMI3c a3tDKBRYNHbo a3eJUnf4CaBb aL23ySkFHNJ8 aCscTTGtCvB2 a5sBkzSY4sAm a527F5CjcCbh aGRslL73p4vD aDrrLqZuoD7D a6HaerXz2WEf aA1XuZctVZmz aIQT3KMIVmbK avBrR2lCEVi aLBBVouV5YXe aB93MaUKFBTm aHbWYmfNfuRM aI0iWfWxYdRK a6014gbPjd2x a6k3IQMNV2ee aAhPjepcAtcJ aK72GDxChinn aJO67rywqi7G aCdyO4bl2CBf awyskkF6EPm a2YBXNVm6Qid a9BtG9xAmMA a3ydeLZzJpgU aC9jWczQ0sCF aInNW87FAQ3O a9EMCuoI4wcZ a15aoQ1xxHqy a6EX9rMsWb92 a34rvRo20qpo aCjslu3a6CCY a23xAtdPPOSq aAfcXj3ncLgL a5COmADXksLp aHUAkDFMCzIG aA6AVS9GERUh a1jA7Ac9IAcm a1630ZaEsRtr aWSqw7x33T2 aC5PwmGuOYLR aDY3GbuWkKBp a5DMZe3wSSrf a7CWeFmPGs9B aA7mhprV8wpf aKGWWsb7Rbew a7PP5Btj9RFF aKWW2kzi1Ntv aEAmYnRRmEi a4SaKUe84gbg aGB9HmNokJnq aClRXrhEYnwi aCEswY657qGC a1rf7dxStzu3 aGBG6uYqVHnj aDvvBjrrmV05 a9FeDZqBsCwg a9ijIhg82QEa aGVe5iSsfCxY aFQ53lFX7Kh4 a1XwDgaGrj4K aGtQCxRmi6nI a55M8DIArFMe a2psGU6UEtGH aGXvf7chpbdP aHyh5uwra9BP a3nnprWVdzPp aLBvZHzFiwAI a1YJeigqs1Jb aAftLiRrUWGt aBg1mPF3Zcb4 aLpdiwQCdRNz aEaCayCTyXdF a90AcwuFLqKk a4uDKmJJM2En a7rqgSOARCN7 a9l4ynvCGeJS aCq1AChmKetA aHHq6tFE67AV awcjL5zSwP9 aCEr8xG9R6hW aGwpJB829lh aBPqy1xKonWz aBPfWeB041p0 a1RXQDXjX1N4 aAR7y8tAnZ89 a9YnheF679E5 aD6MIBupNRNq a7ft4HJDQDiG a1tq7zsEVLZK a4k8VBtZssmp aKaiWJgM9Wrj aBWhoKyA4Wy5 a6DXW44S5sao aJgkfkotmrvT aEp8LBC8Z3M2 aIKiSccxS1bZ aLsLwymVeDur aAiQVlCNZwur aFGMqyObW7rU a4sQ7ABKqv8j a7qP8nNtfMW1 aEzUK369syWI aH1yAibApRLv aKlEnjfxTryA aEXPYzSurCtN a7HcNdXAP1UR aJinM7ukOP8z aCoRLXl98j5T aLPrNEMthaSN a8Bl8SLhAgLs a1PPHrXrmpix a6fzdgH8xbTG aB9UgSE0TK14 aD9hq7eaWwIt aLwHzmKDfQPu aHvShOYiLAEa a25jTyhwBayV aDvHOZ0B2KbK aKgX2p3iGURr aExpH4FviZEj a85oF2vcKNaD a6OFv3nOxJpI a3J3YtZ46Uxi a59Kzx61uHbE aKWZrnaFfVOc a2LVjxhGvf4N a9t9LoH2k6Y6 aKnt5QAoZeJr a4eV0ojPQT4k a5in0QDNGne3 aIvsKil7oqvK aGFPlAMrDiXJ a1FhX7ZbbuHx a4lmnnODs2MD aEOSel1rWJDB a9dKLCuO3HSP aLJiDHgXzMcL a6GiAitDth0L a2EFOK9Q3zXU aFpPFtIHXSfY a4gG5Y25lsxx a513sgkRKJLV a3l49xHqOlDn aB52hndR90XB a6CIInNFW5U4 aITY6mMCNdRg a6dSm1LbNnfj aBwLl18ifH2D aGc3adBRkkir aEGPvBNa3G9k a86RfAXuofn1 a9zBqvcoQAiI aDWfVpqiF9Nq aK4ug42qkO1g a4LJkOMTqJHL aEtQW9jsCuX2 a1uSCTs0bTtM a35LO1CE76u1 aI8j5H64NToA aCNkeCvKO3XT aFFRY95ODQ2r aGRB2n7EzopG aEAeNLqLWpN1 a2jJotqv4X4P aDHMAz4OiGBm aEB5Rsqo3OOX aB4ghVwbGtUm a7wrqUJIb2Hy a3hPlfWGUGgi aA9LDp7UjHIg a87yZo4blAzL aJzRcWwt0k8o aFp38aUj3YmQ a3pRzDB1emlQ a8f4x6X8tQAR aDQbWZZ9l6eY a86TM40pdIRk a4T1NoaDeFdm aGssAxYrgmHU a7xIZVejawgD aGibPXFCg6Ix a8dRw3sKUvdS aJhcyl8HLkzV aDoIfCR1LvIw a3PJivvr30Xh a6TZlObhGpo9 a9HfdHt1CAgb aHKAh2IOayvc aGW6PJCNg79H a2Jut2AA6HOl a7aZJvgZoQ5A aK1N4ueWY2H6 a7ltVqXA0yJe aAPY6nsuOv3d aZRzp339t8G aIRbgX8QvpSg aJp6zNXHIqT aAsvxGkiHlfc a9jWgEnorwu a29rPQuNR5Zq aKXl1b0NNorX aFUzKx1kNeye a9V4RznvH7D7 aLQf8yM1gnNs a1UBpbpqidUQ aBuPtPv34Lik aHA6lM256UxD aEMvZAx3zBhz aGs5DGj4qg55 a1nyNlhi8SMQ aCOHPqbgAdpQ a9rFPAVhfg63 aIOTV4cfip3P aJl5zBmXGW82 a85E8hDfrSHb aLyHL6ye6B4M aH1ee9m92jxu aLXORe45Z2R7 agHv1U4pXkn aGrLFRdB2CGZ aEvVraeMD0LH a2Oj4J6yW98g aKTNV9avtR3w a9e99qxIzzoT aKoLJGEkef9b aATfZNNAydTR aK3At6DscJ8w a474UWgxT6sX a2YqSzEyjp5t aBrgDBBqNy4G a4GUD3RsovN1 aAitVZlXd0Zx aAv8y98Qf9li aE9h3sJ6o5nx aLVnAcPxZd6H a5mtzRl5HdQ0 aAjYIfnk5tVz aEZFIgpE4HLF a8bwHrApURSh
end PySem.W.Fast
end
namespace InkHd
open PySem PySem.W PyProof.Rows
def fr(o:Obj):=match o.data with|.freed=>none|_=>some o
noncomputable def pk(s:List Obj):Nat→List Nat→List (Option Obj):=s.rec (fun _ _=>[]) fun o _ h i l=>l.rec [] fun a r _=>(i.beq a).rec (h (i+1) l) (fr o::h (i+1) r)
theorem ps:∀(s:List Obj)(i:Nat)(K:Frag),pk s i (K.map (·.1))=K.map (some ·.2)→∀ a b,K.lookup a=some b→∃ n u,a=i+n∧s[n]?=some u∧fr u=some b
|_,_,[],_,_,_=>nofun
|[],_,_::_,e,_,_=>nomatch (id e:[]=_::_)
|o::s,i,(c,d)::K,e,a,b=>by
 have f:((i.beq c).rec (pk s (i+1) (((c,d)::K).map (·.1))) (fr o::pk s (i+1) (K.map (·.1))):List _)=((c,d)::K).map (some ·.2):=e
 have g:(∃ n u,a=i+1+n∧s[n]?=some u∧fr u=some b)→∃ n u,a=i+n∧(o::s)[n]?=some u∧fr u=some b:=fun⟨n,u,h,k⟩=>⟨n+1,u,by rw[h,Nat.add_assoc,Nat.add_comm 1],k⟩
 cases z:i.beq c with
 |false=>rw[z] at f;exact g∘ps s _ _ f a b
 |true=>
  rw[z] at f;injection (id f:fr o::_=some d::_) with p q;intro h;rw[List.lookup_cons] at h;split at h
  next t=>cases h;exact⟨0,o,(eq_of_beq t).trans (Nat.eq_of_beq_eq_true z).symm,rfl,p⟩
  next=>exact g (ps s _ K q a b h)
noncomputable def kF(K:Params→Frag)(l:List Addr)(e:∀P,l=(K P).map (·.1)):Hook where
 α:=List (Option Obj)
 obs s:=pk s.heap.objs.toList 0 l
 val w:=(K w.params).map (some ·.2)
 says:=InK K
 of w s h a o k:=by
  obtain⟨n,⟨_,_,d,_⟩,p,q,r⟩:=ps _ 0 _ (e w.params▸h) a o k
  rw[p,Nat.zero_add];unfold Heap.get?;rw[←Array.getElem?_toList,q];cases d<;>first|exact r|cases r
 keeps:=(kHook K l e).keeps
theorem kIn_of{K:Params→Frag}{e:∀P,l=(K P).map (·.1)}(Y:(kF K l e).says w h):(K w.params).In h:=Y
local macro_rules |`(tactic|o_head ($_:ident $K $l $e))=>`(tactic|o_head (kF $K $l $e : Hook))
set_option maxRecDepth 100000 in
set_option maxHeartbeats 0 in
open_top hd_k56 for PySem.Challenge.rw_inkroot_k56_whole_dues
end InkHd
noncomputable section
local macro_rules |`(def $d:declId $s:optDeclSig $v:declVal)=>Lean.MonadRef.withRef .missing do if v.raw[1].isOfKind ``Lean.Parser.Term.byTactic then`(theorem $d:declId $(⟨Lean.mkNode ``Lean.Parser.Command.declSig #[s.raw[0],s.raw[1][0]]⟩):declSig $v:declVal)else`(noncomputable def $d:declId $s:optDeclSig $v:declVal)
local macro_rules |`(abbrev $d:declId $s:optDeclSig $v:declVal)=>Lean.MonadRef.withRef .missing do`(noncomputable abbrev $d:declId $s:optDeclSig $v:declVal)
local macro_rules(kind:=Lean.Parser.Command.declaration)|s=>match s.getHeadInfo with|.original ..=>return s.setHeadInfo .none|_=>Lean.Macro.throwUnsupported
local macro_rules|`($s:str)=>match("a_law_world_here,b_law_src_here,cself,d_law_rows,e_law_sheet,f_law_house,gsheet,hlist,istart,jrow,k_law_numbers,litems,m_law_script,nrows,ostop,p_law_deed_here,qhand,r_law_found,stuple,taddress,u__debug__,v__init__,w_law_entry,x_law_start,yrange,zopenings,Aviews,Bshelf,Cplace,Dstates,Ewell,F_law_hand,Gsheets,Hblots,I_law_base,J_law_due,Ksigns,Lholes,M_law_many,N_law_paid,Oowners,Pmoment,Qtype.__call__,Rknots,SStopIteration,T_law_stop,Udict_reverseitemiterator,Vdeed,W_law_place,X__name__,Ypourings,Zitem,0weights,1changes,2_law_few,3itertools.zip_longest,4dict,5fresh,6other,7target,8source,9_law_row".splitOn ",").find? fun x=>x.toList.take 1==s.getString.toList with|some x=>return Lean.Syntax.mkStrLit (String.ofList (x.toList.drop 1))|_=>Lean.Macro.throwUnsupported
set_option hygiene false in
local macro_rules|`(tactic|rfl')=>`(tactic|all_goals try dsimp only[aP,aG])
local macro_rules|`($x⁻¹)=>`(($x).heap.objs.size)
set_option hygiene false in
local macro_rules|`(tactic|bv_omega)=>`(tactic|(first|assumption|(show List.Nodup [_];decide +kernel)|(show List.Nodup [_,_];decide +kernel)|(show List.Nodup [_,_,_];decide +kernel)|(show List.Nodup [_,_,_,_];decide +kernel)|(show List.Nodup [_,_,_,_,_];decide +kernel)|(show List.Nodup [_,_,_,_,_,_];decide +kernel)|(show List.Nodup [_,_,_,_,_,_,_];decide +kernel)|(show List.Nodup [_,_,_,_,_,_,_,_];decide +kernel)|(show List.Nodup [_,_,_,_,_,_,_,_,_];decide +kernel)))
set_option hygiene false in
local macro_rules|`(tactic|bv_decide)=>`(tactic|(intro _ _ _ _ _ _;first|exact gk λ_=>rfl|exact gl λ_ _=>rfl|exact gq λ_ _ _=>rfl|exact gs λ_ _ _ _=>rfl|exact gt λ_ _ _ _ _=>rfl|exact j1 λ_ _ _ _ _ _=>rfl|exact ge rfl))
set_option hygiene false in
local macro_rules|`(tactic|bv_normalize)=>`(tactic|(first|exact .inl rfl|exact .inr rfl|assumption))
set_option hygiene false in
local macro_rules|`(tactic|ac_nf)=>`(tactic|(first|exact Fw _ (by decide) (by decide)|rfl))
set_option hygiene false in
local macro_rules|`(tactic|ac_rfl)=>`(tactic|(first|exact Or.inl rfl|exact Or.inr rfl))
set_option hygiene false in
local macro_rules|`(tactic|and_intros)=>`(tactic|(first|exact Or.inl rfl|exact Or.inr (Or.inl rfl)|exact Or.inr (Or.inr rfl)))
set_option hygiene false in
local macro_rules|`(tactic|clean_wf)=>`(tactic|(intro _ _ _ _ h;cases h;subst_vars;rfl))
open PySem
open PyProof
open PySem.W (Frag InstAt callWith_K callWith_K0 cellsFrom_some codeIn emptyDict findIn fnOf handedIn hasDictIn instObj isFn kIn_of keepIn kia_one kitOne kitx_dict kitx_list lookIn makesIn methodCall_KW methodObj mg_of mroIn nsIn plainGet plainGet_of plainOver takerIn typeIn)
local macro_rules
|`(⟨$a,*⟩)=>do
 let mut z:=#[]
 let mut c:=false
 for x in a.getElems do
  if x.raw.isNatLit?==some 1 then
   c:=true;z:=z.push (<-`(rfl))
   continue
  match x.raw.getId with
  |`Z=>c:=true;z:=z++#[<-`(_),<-`(_),<-`(rfl),<-`(rfl)]
  |`Y=>c:=true;z:=z++#[<-`(_),<-`(rfl)]
  |`V=>c:=true;z:=z++#[<-`(rfl),<-`(rfl)]
  |`Q=>c:=true;z:=z++#[<-`(_),<-`(_),<-`(_)]
  |`E=>c:=true;z:=z++#[<-`(_),<-`(_)]
  |_=>z:=z.push x
 if c then`(⟨$z,*⟩)else Lean.Macro.throwUnsupported
local macro_rules|`(tactic|exists $a,*)=>`(tactic|refine ⟨$a,*, ?_⟩)
set_option hygiene false in
local macro_rules|`(‹($a,$i,$p,$s)›)=>`(∀D:bS,aZ cX bf bV cW cV cQ $a (dQ $i) (dR $i) $p $s)
set_option hygiene false in
local macro_rules|`(class inductive $n:declId $b:bracketedBinder* $c:ctor*)=>Lean.MonadRef.withRef .missing do`(inductive $n $b* (vs:List V)(H:Hp)(Q:VK)(E:XK):Prop $c:ctor*)
set_option hygiene false in
local macro_rules|`(tactic|specialize $e)=>`(tactic|refine $e λdc A zn s0 H vs Q E hr _ h=>?_)
local macro_rules|`(nofun)=>`(by decide +kernel)
local macro_rules|`(∅)=>`(by lia)
local macro_rules|`(↑$x)=>`(($x).length)
local macro_rules|`(⇑$x)=>`(some $x)
local macro_rules|`(↥$x)=>`(.ref $x)
local macro_rules|`(tactic|let $p:term:=$e)=>do
 let rec go:Nat->Lean.Term->Lean.MacroM (Lean.TSyntax `rcasesPat)
  |0,_=>Lean.Macro.throwUnsupported
  |n+1,t=>do match t with
   |`(⟨$a,*⟩)=>
    let b←a.getElems.mapM fun x=>do`(Lean.Parser.Tactic.rcasesPatLo|$(←go n x):rcasesPat)
    `(rcasesPat|⟨$b,*⟩)
   |`(_)=>`(rcasesPat|_)
   |_=>`(rcasesPat|$(⟨t.raw⟩):ident)
 `(tactic|obtain $(←go 9 p):rcasesPat:=$e)
set_option hygiene false in
local macro_rules|`(#[$a,*])=>do
 if a.getElems.isEmpty then Lean.Macro.throwUnsupported
 let mut z<-`(ah)
 for x in a.getElems.reverse do z<-if x.raw.isOfKind `num then`(aa (pv $x) $z)else`(aa $x $z)
 return z
set_option hygiene false in
local macro_rules|`(#v[$a,*])=>do
 let e:=a.getElems
 let mut z<-`(au $(e.back!))
 for x in e.pop.reverse do z<-`(aj $x $z)
 return z
local macro_rules|`(tactic|let $d:letDecl)=>if d.raw[0].isOfKind ``Lean.Parser.Term.letIdDecl then`(tactic|have $d:letDecl)else Lean.Macro.throwUnsupported
abbrev ZB:=Value->Shared->Prop
abbrev Y2:=Int->List Int
abbrev Y1:=Addr->Prop
abbrev Ya:=Str->Option Value
abbrev X2:=Result->Shared->Prop
abbrev X1:=Array Rows.Keyed
abbrev XB:=Option Value
abbrev Xt:=Array Value
abbrev WP:=List Value
abbrev WF:=List Addr
abbrev Wp:=List Int
abbrev UV:=List Str
namespace _L2
open Spec Rows
abbrev eG:=Sum Int Str
def xG:eG->Value->Bool
 | .inl k,v=>Value.isInt k v
 | .inr x,v=>Value.isStrOf x v
def pc(w:World):eG->Int
 | .inl k=>hashInt k
 | .inr x=>hashStr w x
theorem fH:∀ {k:eG} {v:Value},xG k v=true->(∃ i t,k=Sum.inl i/\v=Value.int i t)\/(∃ x t,k=Sum.inr x/\v=Value.str x t)
 | .inl i,v,h=>by
  let⟨t,e⟩:=Value.isInt_shape (k:=i) (v:=v) h;exact .inl ⟨i,t,1,e⟩
 | .inr x,v,h=>by
  let⟨t,e⟩:=Value.isStrOf_shape (x:=x) (v:=v) h;exact .inr ⟨x,t,1,e⟩
def Mr(i:Int)(t:Tok):xG (.inl i) (.int i t)=true:=by simp[xG,Value.isInt]
def Ms(x:Str)(t:Tok):xG (.inr x) (.str x t)=true:=by simp[xG,Value.isStrOf]
def WY(a b:Int):decide ((Sum.inl a:eG)=Sum.inl b)=(a == b):=by
 by_cases e:a=b
 ·subst e;simp
 ·let h:¬ (Sum.inl a:eG)=Sum.inl b:=λq=>e (Sum.inl.inj q);rw[decide_eq_false h];exact (beq_eq_false_iff_ne.mpr e).symm
def WZ(a b:Str):decide ((Sum.inr a:eG)=Sum.inr b)=decide (a=b):=by
 by_cases e:a=b
 ·subst e;simp
 ·let h:¬ (Sum.inr a:eG)=Sum.inr b:=λq=>e (Sum.inr.inj q);rw[decide_eq_false h,decide_eq_false e]
theorem W0(a:Int)(b:Str):decide ((Sum.inl a:eG)=Sum.inr b)=false:=decide_eq_false (λq=>nomatch q)
theorem Xa(a:Str)(b:Int):decide ((Sum.inr a:eG)=Sum.inl b)=false:=decide_eq_false (λq=>nomatch q)
def eU(d:Program)(w:World):PySem.KeyKind d w eG where
 is:=xG
 hash:=pc w
 inj:=λv l m f c=>by
  rcases fH f with ⟨i,t,rfl,rfl⟩|⟨x,t,rfl,rfl⟩
  ·rcases fH c with ⟨j,u,rfl,e⟩|⟨y,u,rfl,e⟩
   ·injection e with a _;rw[a]
   ·exact nomatch e
  ·rcases fH c with ⟨j,u,rfl,e⟩|⟨y,u,rfl,e⟩
   ·exact nomatch e
   ·injection e with a _;rw[a]
 byValue:=λk v h=>by
  rcases fH h with ⟨i,t,rfl,rfl⟩|⟨x,t,rfl,rfl⟩ <;> rfl
 pyHash:=λb h=>by
  rcases fH b with ⟨i,t,rfl,rfl⟩|⟨x,t,rfl,rfl⟩
  ·exact wpAny_pyHash_int h
  ·exact wpAny_pyHash_str h
 eqBool:=λg b h=>by
  rcases fH g with ⟨i,t,rfl,rfl⟩|⟨x,t,rfl,rfl⟩
  ·rcases fH b with ⟨j,u,rfl,rfl⟩|⟨y,u,rfl,rfl⟩
   ·rw[WY]at h;exact wpAny_eqBool_int h
   ·rw[W0]at h;exact SeqAt.EqAt.int_str i t y u _ _ _ _ h
  ·rcases fH b with ⟨j,u,rfl,rfl⟩|⟨y,u,rfl,rfl⟩
   ·rw[Xa]at h;exact SeqAt.EqAt.str_int x t j u _ _ _ _ h
   ·rw[WZ]at h;exact wpAny_eqBool_str h
 «strs»:=λk x t v h=>by
  rcases fH h with ⟨i,u,rfl,e⟩|⟨y,u,rfl,e⟩
  ·exact nomatch e
  ·injection e with a _;subst a
   cases v <;> rfl
theorem Fo(a:Program)(w:World)(i:Int)(t:Tok):(eU a w).is (.inl i) (.int i t)=true:=Mr i t
theorem Fp(a:Program)(w:World)(x:Str)(t:Tok):(eU a w).is (.inr x) (.str x t)=true:=Ms x t
end _L2
namespace _L2
open Spec Rows
inductive V where
 | gc | bl (b:Bool) | int (i:Int) | str (x:Str) | IF (b:Array UInt8) | VE (b:UInt64) | ref (a:Addr) | ty (n:String)
 deriving DecidableEq
def RelV:V->Value->Prop
 | .gc,u=>u=Value.none
 | .bl b,u=>u=Value.bool b
 | .int i,u=>∃ t,u=Value.int i t
 | .str x,u=>∃ t,u=Value.str x t
 | .IF b,u=>∃ t,u=Value.bytes b t
 | .VE b,u=>∃ t,u=Value.float b t
 | .ref a,u=>u=Value.ref a
 | .ty n,u=>u=Value.type n
abbrev cK:List V->List Value->Prop:=Paired RelV
theorem cK.length{a:List V}{b:WP}(r:cK a b):↑a=↑b:=Paired.length r
theorem cK.get:∀ {a:List V} {b:WP} {i:Nat} {x:V},cK a b->a[i]?=⇑x->∃ u,b[i]?=⇑u/\RelV x u
 | _,_,_,_,.nil,e=>by simp at e
 | _,_,0,_,.cons r _,e=>by simp at e;subst e;exact⟨Y,r⟩
 | _,_,i+1,x,.cons _ t,e=>by
  let⟨u,c,d⟩:=cK.get (i:=i) (x:=x) t (by simpa using e);exact⟨u,by simpa using c,d⟩
theorem cK.set{x:V}{u:Value}(r:RelV x u):∀ {a:List V} {b:WP} (i:Nat),cK a b->cK (a.set i x) (b.set i u)
 | _,_,_,.nil=>.nil
 | _,_,0,.cons _ t=>.cons r t
 | _,_,i+1,.cons q t=>.cons q (cK.set r i t)
def cK.append{a b:List V}{c d:WP}(h:cK a c)(s:cK b d):cK (a++b) (c++d):=by
 induction h with
 | nil=>exact s
 | cons r _ e=>exact .cons r e
theorem cK.take:∀ {a:List V} {b:WP} (n:Nat),cK a b->cK (a.take n) (b.take n)
 | _,_,0,_=>.nil
 | _,_,_+1,.nil=>.nil
 | _,_,n+1,.cons r t=>.cons r (cK.take n t)
theorem cK.drop:∀ {a:List V} {b:WP} (n:Nat),cK a b->cK (a.drop n) (b.drop n)
 | _,_,0,r=>r
 | _,_,_+1,.nil=>.nil
 | _,_,n+1,.cons _ t=>cK.drop n t
def qg:Option V->Option Value->Prop
 | some v,some u=>RelV v u
 | none,none=>True
 | _,_=>False
def KV{a:Type}:List (a × V)->List (a × Value)->Prop:=Paired λ(p:a × V) (q:a × Value)=>p.1=q.1/\RelV p.2 q.2
def kV:eG->V
 | .inl i=>.int i
 | .inr x=>.str x
inductive HO where
 | lst (a:List V)
 | tup (a:List V)
 | dK (b:List (eG × V)) | dT (b:List (List eG × V))
 | set (d:Int->Bool) (n:Nat)
 | ins (C e:Addr) (c:List (Str × V))
 | own (x:Addr)
 | xd (c:List (Str × V))
 | met (f x:Addr)
 | Fq (lo g:Int)
 | KS (o:Obj) (u:HO)
 | VF (h:Xt)
 | ext (i:Heap->Prop)
abbrev Hp:=Addr->Option HO
def aO(H:Hp)(a:Addr)(o:HO):Hp:=λb=>if b=a then some o else H b
def af{H:Hp}{a:Addr}{o:HO}:aO H a o a=⇑o:=by unfold aO;rw[if_pos rfl]
def aN{H:Hp}{a b:Addr}{o:HO}(h:b≠a):aO H a o b=H b:=by unfold aO;rw[if_neg h]
def cS{H:Hp}{a b:Addr}{o u:HO}(h:H a=⇑o)(c:H b=⇑u)(d:o≠u:=by intro z;cases z):a≠b:=by
 intro e;subst e;rw[h]at c;exact d (qz c)
def aB{H:Hp}{a b:Addr}{o:HO}(h:H a=⇑o)(c:H b=none):a≠b:=by
 intro e;subst e;rw[h]at c;cases c
section
variable (P:Program) (w:World)
def gn(H:Hp)(h:Heap)(a:Addr):HO->Prop
 | .lst b=>↑b<=sizeLine/\∃ (c:WP) (n:Nat),cK b c/\h.get? a=some { cls:=.type "h",data:=.seq c.toArray n }
 | .tup b=>↑b<=sizeLine/\∃ c:List Value,cK b c/\IsTup h a c.toArray
 | .dK c=>↑c<=sizeLine/\(a == sysModules)=false/\∃ b,KV c b/\h.DictOf (eU P w) a b
 | .dT c=>↑c<=sizeLine/\(a == sysModules)=false/\∃ b:List (List eG × Addr × Value),
   Paired (λ(p:List eG × V) (q:List eG × Addr × Value)=>p.1=q.1/\H q.2.1=⇑(.tup (p.1.map kV))/\RelV p.2 q.2.2) c b/\
   ∃ o c d,h.get? a=⇑o/\o.ExactDict/\o.data=.dict c d/\c.toList=b.map (entryOfKey (tupleKind (eU P w)))/\(b.map (·.1)).Nodup
 | .set S n=>h.SetOf (intKind P w) a S n
 | .ins C d c=>H d=⇑(.own a)/\↑c<=1000/\d≠a/\h.get? a=⇑(instObj C d)/\
   ∃ b,h.Ns1 d b/\(∀ f,qg (c.lookup f) (b f))/\PySem.Within b (c.map (·.1))
 | .own _=>∃ o,h.get? a=⇑o
 | .xd c=>∃ b,h.Ns1 a b/\∀ f,qg (c.lookup f) (b f)
 | .Fq lo hi=>∃ t u v,h.get? a=some { cls:=.type "y",data:=.fields (List.toArray [.int lo t,.int hi u,.int 1 v]) }
 | .KS o u=>h.get? a=⇑o/\gn H h a u
 | .VF b=>h.get? a=some { cls:=.none,data:=.fields b }
 | .met f x=>h.get? a=⇑(methodObj ↥f ↥x)
 | .ext b=>b h/\(∃ o,h.get? a=⇑o)/\∀ c d:Heap,b c->(∀ o,c.get? a=⇑o->d.get? a=⇑o)->b d
def uK(H:Hp)(h:Heap):Prop:=∀ a o,H a=⇑o->gn P w H h a o
end
section
variable {P:Program} {w:World} {H H':Hp} {h h':Heap} {a:Addr} {o:HO}
def gn.lt(x:gn P w H h a o):a<h.objs.size:=by
 cases o with
 | lst b=>let⟨_,_,_,_,e⟩:=x;exact Heap.lt_size e
 | tup b=>let⟨_,_,_,p⟩:=x;exact p.lt
 | dK b=>let⟨_,_,_,_,o,_,_,e,_⟩:=x;exact Heap.lt_size e
 | dT b=>let⟨_,_,_,_,o,_,_,e,_⟩:=x;exact Heap.lt_size e
 | set S n=>let⟨o,_,_,_,e,_⟩:=x;exact Heap.lt_size e
 | ins C c b=>let⟨_,_,_,e,_⟩:=x;exact Heap.lt_size e
 | own y=>let⟨_,e⟩:=x;exact Heap.lt_size e
 | xd b=>let⟨_,⟨_,_,_,e,_⟩,_⟩:=x;exact Heap.lt_size e
 | Fq lo hi=>let⟨_,_,_,e⟩:=x;exact Heap.lt_size e
 | KS b u=>let⟨e,_⟩:=x;exact Heap.lt_size e
 | VF b=>exact Heap.lt_size (show h.get? a=⇑_ from x)
 | met f y=>exact Heap.lt_size (show h.get? a=⇑_ from x)
 | ext b=>let⟨_,⟨_,e⟩,_⟩:=x;exact Heap.lt_size e
def Paired.Dv{b c:Type}{d G:b->c->Prop}{e:List b}{f:List c}(h:Paired d e f)(i:∀ a g,d a g->G a g):Paired G e f:=by
 induction h with
 | nil=>exact .nil
 | cons r _ j=>exact .cons (i _ _ r) j
theorem gn.stay(x:gn P w H h a o)(k:∀ b u,(b=a\/H b=⇑(.own a))->h.get? b=⇑u->h'.get? b=⇑u)
  (m:∀ b,H b=⇑(.own a)->H' b=⇑(.own a)) (v:∀ b i,H b=⇑(.tup i)->H' b=⇑(.tup i)):gn P w H' h' a o:=by
 induction o with
 | lst i=>let⟨z,f,n,r,e⟩:=x;exact⟨z,f,n,r,k _ _ (.inl rfl) e⟩
 | tup i=>let⟨z,f,r,d,e,c⟩:=x;exact⟨z,f,r,d,k _ _ (.inl rfl) e,c⟩
 | dK j=>let⟨z,y,l,r,d,f,g,e,c⟩:=x;exact⟨z,y,l,r,d,f,g,k _ _ (.inl rfl) e,c⟩
 | dT j =>
  let⟨z,y,i,r,d,f,g,e,c⟩:=x;exact⟨z,y,i,Paired.Dv r λp q z=>⟨z.1,v _ _ z.2.1,z.2.2⟩,d,f,g,k _ _ (.inl rfl) e,c⟩
 | set S n=>let⟨d,f,g,t,e,c⟩:=x;exact⟨d,f,g,t,k _ _ (.inl rfl) e,c⟩
 | ins C q n =>
  let⟨l,z,ne,e,d,⟨j,f,g,p,c⟩,r⟩:=x;exact⟨m _ l,z,ne,k _ _ (.inl rfl) e,d,⟨j,f,g,k _ _ (.inr l) p,c⟩,r⟩
 | own y=>let⟨d,e⟩:=x;exact⟨d,k _ _ (.inl rfl) e⟩
 | xd n=>let⟨d,⟨j,f,g,e,c⟩,r⟩:=x;exact⟨d,⟨j,f,g,k _ _ (.inl rfl) e,c⟩,r⟩
 | Fq lo hi=>let⟨t,u,c,e⟩:=x;exact⟨t,u,c,k _ _ (.inl rfl) e⟩
 | KS d u c=>let⟨e,q⟩:=x;exact⟨k _ _ (.inl rfl) e,c q⟩
 | VF c =>
  let e:h.get? a=some { cls:=.none,data:=.fields c }:=x;show h'.get? a=some { cls:=.none,data:=.fields c };exact k a _ (.inl rfl) e
 | met f y =>
  let e:h.get? a=⇑(methodObj ↥f ↥y):=x;show h'.get? a=⇑(methodObj ↥f ↥y);exact k a _ (.inl rfl) e
 | ext c=>let⟨p,⟨o,e⟩,st⟩:=x;exact⟨st _ _ p λo q=>k _ _ (.inl rfl) q,⟨o,k _ _ (.inl rfl) e⟩,st⟩
theorem uK.lt(x:uK P w H h)(e:H a=⇑o):a<h.objs.size:=(x a o e).lt
def uK.fresh(x:uK P w H h)(e:h.objs.size<=a):H a=none:=by
 cases q:H a with
 | none=>rfl
 | some u=>exact absurd (qw (x.lt q) e) (Nat.lt_irrefl _)
theorem uK.kept(x:uK P w H h)(k:∀ b u,h.get? b=⇑u->h'.get? b=⇑u):uK P w H h':=λa o e =>
 (x a o e).stay (λb u _ q=>k b u q) (λ_ q=>q) λ_ _ q=>q
theorem uK.laid(x:uK P w H h)(k:∀ b u,h.get? b=⇑u->h'.get? b=⇑u)(f:h.objs.size<=a)(g:gn P w (aO H a o) h' a o):uK P w (aO H a o) h':=λb u e=>by
 let d:=x.fresh f;by_cases c:b=a
 ·subst c;rw[af]at e;cases e;exact g
 ·rw[aN c]at e;exact (x b u e).stay (λc v _ q=>k c v q) (λc q=>by rw[aN (aB q d)];exact q) λc c q=>by rw[aN (aB q d)];exact q
end
def Rd(H:Hp)(a:Addr)(u:HO):Prop:=H a=⇑u\/∃ o,H a=⇑(.KS o u)
def Rd.ok{P:Program}{w:World}{H:Hp}{h:Heap}{a:Addr}{u:HO}(r:Rd H a u)(x:uK P w H h):gn P w H h a u:=by
 rcases r with r|⟨o,r⟩
 ·exact x a u r
 ·let⟨_,q⟩:=x a _ r;exact q
def Z5:Option HO->Prop
 | some (.lst _)=>True
 | some (.dK _)=>True
 | some (.dT _)=>True
 | some (.set _ _)=>True
 | some (.ins _ _ _)=>True
 | some (.ext _)=>True
 | _=>False
section
variable {P:Program} {w:World} {H:Hp} {h h':Heap} {x e:Addr} {o':HO}
theorem uK.write(l:uK P w H h)(a:Z5 (H x))(j:e=x\/H e=⇑(.own x))(m:∀ b u,b≠e->h.get? b=⇑u->h'.get? b=⇑u)(n:∃ u,h'.get? e=⇑u)
  (o:gn P w (aO H x o') h' x o'):uK P w (aO H x o') h':=λb u q=>by
 let k:∀ c y,H c=⇑(.own y)->c≠x:=λc y r z=>by subst z;rw[r]at a;exact a
 let p:∀ c d,H c=⇑(.tup d)->c≠x:=λc d r z=>by subst z;rw[r]at a;exact a
 by_cases f:b=x
 ·subst f;rw[af]at q;cases q;exact o
 ·rw[aN f]at q;by_cases g:b=e
  ·let i:H b=⇑(.own x):=by
    rcases j with z|z
    ·exact absurd (g.trans z) f
    ·rw[g];exact z
   rw[q]at i;cases i;let⟨v,i⟩:=n;exact⟨v,by rw[g];exact i⟩
  ·refine (l b u q).stay (λc v i r=>m c v ?_ r) (λc r=>by rw[aN (k c b r)];exact r) λc d r=>by rw[aN (p c d r)];exact r
   rcases i with rfl|i
   ·exact g
   ·rintro rfl;rcases j with z|z
    ·exact k c b i z
    ·rw[i]at z;cases z;exact f rfl
end
structure Un(fs ex:WF)(H H':Hp)(h h':Heap):Prop where
 keep:∀ b o,h.get? b=⇑o->H b=none->b∉fs->b∉ex->h'.get? b=⇑o
 slot:∀ b o,h.get? b=⇑o->H b=none->b∈fs->b∉ex->∃ sl,h'.get? b=some { o with slots:=sl }
 free:∀ b o,h.get? b=⇑o->H b=none->b∉ex->H' b=none
 there:∀ b o,h.get? b=⇑o->b∉ex->∃ o',h'.get? b=⇑o'
 tups:∀ b xs,H b=⇑(.tup xs)->H' b=⇑(.tup xs)
 Dw:∀ b o u,H b=⇑(.KS o u)->H' b=⇑(.KS o u)
 Ft:∀ b ps,H b=⇑(.VF ps)->∃ more,H' b=⇑(.VF (ps++more))
section
variable {fs ZC ex ex':WF} {H H1 H2:Hp} {h h1 h2 h':Heap} {a x e:Addr} {o:HO}
def Un.any(u:Un fs ex H H1 h h1){b:Addr}{c:Obj}(q:h.get? b=⇑c)(n:H b=none)(d:b∉ex):∃ f,h1.get? b=some { c with slots:=f }:=by
 by_cases a:b∈fs
 ·exact u.slot b c q n a d
 ·exact⟨c.slots,u.keep b c q n a d⟩
theorem Un.kept(k:∀ b u,h.get? b=⇑u->h'.get? b=⇑u):Un fs ex H H h h' :=
 ⟨λb a q _ _ _=>k b a q,λb a q _ _ _=>⟨a.slots,k b a q⟩,λ_ _ _ n _=>n,λb a q _=>⟨a,k b a q⟩,λ_ _ q=>q,λ_ _ _ q=>q,λ_ a q=>⟨#[],by rw[q];simp⟩⟩
theorem Un.refl:Un fs ex H H h h:=Un.kept λ_ _ q=>q
theorem Un.laid(k:∀ b u,h.get? b=⇑u->h'.get? b=⇑u)(d:h.objs.size<=a)(c:H a=none):Un fs ex H (aO H a o) h h' where
 keep:=λb u q _ _ _=>k b u q
 slot:=λb u q _ _ _=>⟨u.slots,k b u q⟩
 free:=λb u q n _=>by rw[aN (i9 (qw (Heap.lt_size q) d))];exact n
 there:=λb u q _=>⟨u,k b u q⟩
 tups:=λb e q=>by rw[aN (aB q c)];exact q
 Dw:=λb u e q=>by rw[aN (aB q c)];exact q
 Ft:=λb e q=>⟨#[],by rw[aN (aB q c),q];simp⟩
def Un.write(c:Z5 (H x))(i:e=x\/H e=⇑(.own x))(k:∀ b u,b≠e->h.get? b=⇑u->h'.get? b=⇑u)(j:∃ u,h'.get? e=⇑u):Un fs ex H (aO H x o) h h':=by
 let d:∀ b,H b=none->b≠x:=λb n z=>by subst z;rw[n]at c;exact c
 let f:∀ b,H b=none->b≠e:=λb n z=>by
  subst z;rcases i with r|r
  ·exact d b n r
  ·rw[n]at r;cases r
 let a:∀ b u,H b=⇑u->¬ Z5 (⇑u)->b≠x:=λb u q l z=>by subst z;rw[q]at c;exact l c
 refine⟨λb u q n _ _=>k b u (f b n) q,λb u q n _ _=>⟨u.slots,k b u (f b n) q⟩,λb u q n _=>by rw[aN (d b n)];exact n,λb u q _=>?_, λb d q=>by rw[aN (a b _ q λz=>z)];exact q,λb u d q=>by rw[aN (a b _ q λz=>z)];exact q,λb d q=>⟨#[],by rw[aN (a b _ q λz=>z),q];simp⟩⟩;by_cases g:b=e
 ·subst g;exact j
 ·exact⟨u,k b u g q⟩
end
def er(h:Heap)(H:Hp):WF:=(List.range h.objs.size).filter λa=>(H a).isSome
def Dy(h:Heap)(H:Hp):Heap:=PySem.W.hideAll h (er h H)
theorem Mt(h:Heap)(H:Hp):(Dy h H).objs.size=h.objs.size:=PySem.W.hideAll_size _ _
theorem Oz{h:Heap}{H:Hp}{b:Addr}{o:Obj}(e:h.get? b=⇑o)(n:H b=none):(Dy h H).get? b=⇑o :=
 PySem.W.hideAll_get _ e λa=>by
  let q:(H b).isSome=true:=(List.mem_filter.mp a).2;rw[n]at q;simp at q
def SH{h:Heap}{H:Hp}{b:Addr}{o:Obj}(e:(Dy h H).get? b=⇑o):h.get? b=⇑o/\H b=none:=by
 let a:h.get? b=⇑o:=PySem.W.of_hideAll (er h H) e;exists a
 cases q:H b with
 | none=>rfl
 | some x =>
  let c:b∈er h H:=List.mem_filter.mpr ⟨List.mem_range.mpr (Heap.lt_size a),by simp[q]⟩;let z:(Dy h H).get? b=none:=PySem.W.hideAll_none (er h H) c;rw[z]at e;cases e
end _L2
namespace _L2
open Spec Rows
structure Mod(K:Frag)(mg:Ya)(zt:Heap):Prop where
 eu:K.In zt
 glob:zt.Ns mainGlobals mg
 blt:∃ mb,zt.Ns builtinsNs mb/\∀ x:Str,x≠"X"->mb x=bootBuiltins x
 nolimit:zt.NoLimit
structure Cx where
 prog:Program
 w:World
 K:Frag
 mg:Str->Option Value
 zt:Heap
 A:Around
 N:List Str
 s₀:Shared
 H₀:Hp
 env:Env
 zn:List Env
 stack:List Env
 ex:List Addr
 fn:Str->Bool
 calm:Bool
 pn:List (Addr × Obj)
 xe:Value->Shared->Prop
def OA(l:List Env):WF:=l.filterMap (·.frame)
abbrev Cx.fs(a:Cx):WF:=OA a.zn
def ew(a:Scope)(x:Str):Prop:=a.names.lookup x=⇑.local\/a.names.lookup x=⇑.cell\/a.names.lookup x=⇑.free
def Loc(a:Scope)(x:Str):Prop:=a.names.lookup x=⇑.local\/a.names.lookup x=⇑.cell
def Look(a:Env)(h:Heap)(m:Ya)(x:Str)(u:Value):Prop :=
 (a.kindOf x=⇑.local/\m x=⇑u)\/((a.kindOf x=⇑.cell\/a.kindOf x=⇑.free)/\∃ c,a.cells.lookup x=⇑c/\h.IsCell c (⇑u))
structure Cx.Ok(X:Cx):Prop where
 mod:Mod X.K X.mg X.zt
 kind:X.env.scope.kind=.function
 glob:X.env.globals=mainGlobals
 blt:X.env.builtins=builtinsNs
 above:X.s₀.heap.objs.size<=X.env.locals
 inj:∀ x y c,X.env.cells.lookup x=⇑c->X.env.cells.lookup y=⇑c->x=y
 has:∀ x,(X.env.kindOf x=⇑.cell\/X.env.kindOf x=⇑.free)->∃ c,X.env.cells.lookup x=⇑c
 Z7:∀ x c,X.fn x=true->X.env.cells.lookup x=⇑c->X.s₀.heap.objs.size<=c
 hd:X.calm=true->X.A.handled=none
 frames:X.A.frames=⇑X.stack
 stk:X.stack=X.zn\/(X.stack=X.env::X.zn/\X.env.frame=⇑X.env.locals)
 hH:∀ b∈X.ex,b≠X.env.locals/\∀ x c,X.env.cells.lookup x=⇑c->c≠b
 bs:∀ b o,X.zt.get? b=⇑o->X.s₀.heap.get? b=⇑o/\X.H₀ b=none
 VG:X.zt.objs.size<=X.s₀.heap.objs.size
 OB:∀ b o,X.zt.get? b=⇑o->b∉X.ex
 SI:∀ b∈X.ex,b∉X.fs
 yr:X.s₀.heap.FunFrames X.zt X.zn
 Xc:∀ b∈X.fs,X.H₀ b=none
structure Inv(X:Cx)(ay:List (Addr × Obj))(σ:List (Option V))(H:Hp)(s:Shared):Prop where
 ok:X.Ok
 os:s.os=X.s₀.os
 bare:AllBare s.gens
 zt:Un X.fs X.ex X.H₀ H X.s₀.heap s.heap
 loc:∃ m,s.heap.Ns X.env.locals m/\∀ (i:Nat) (x:Str) (v:V),X.N[i]?=⇑x->σ[i]?=⇑(⇑v)->ew X.env.scope x->∃ u,RelV v u/\Look X.env s.heap m x u
 cell:∀ x c,X.env.cells.lookup x=⇑c->∃ v,s.heap.IsCell c v
 free:H X.env.locals=none
 sD:∀ x c,X.env.cells.lookup x=⇑c->H c=none
 pin:∀ p∈X.pn++ay,s.heap.get? p.1=⇑p.2/\H p.1=none/\p.1≠X.env.locals/\p.1∉X.fs/\∀ v,p.2.data≠.cell v
 hok:uK X.prog X.w H s.heap
 len:↑σ=↑X.N
section
variable {X:Cx} {c:List (Addr × Obj)} {d:List (Option V)} {H H':Hp} {s:Shared} {h':Heap}
theorem Cx.Ok.pf(a:X.Ok){b:Addr}{o:Obj}(e:X.zt.get? b=⇑o):b∉X.fs:=λc=>by
 have:=(a.yr.mem c).1;rw[e]at this;cases this
theorem Inv.bs(I:Inv X c d H s):∀ b o,X.zt.get? b=⇑o->s.heap.get? b=⇑o/\H b=none:=λb o e =>
 ⟨I.zt.keep b o (I.ok.bs b o e).1 (I.ok.bs b o e).2 (I.ok.pf e) (I.ok.OB b o e),I.zt.free b o (I.ok.bs b o e).1 (I.ok.bs b o e).2 (I.ok.OB b o e)⟩
theorem Inv.bk(I:Inv X c d H s):∀ b o,X.zt.get? b=⇑o->s.heap.get? b=⇑o:=λb o e=>(I.bs b o e).1
theorem Inv.mod(I:Inv X c d H s):Mod X.K X.mg X.zt:=I.ok.mod
theorem Inv.xH(I:Inv X c d H s):X.K.In s.heap:=I.ok.mod.eu.keeps I.bk
theorem Inv.lt(I:Inv X c d H s):X.env.locals<s⁻¹:=let ⟨_,a,_⟩:=I.loc;a.lt
theorem Inv.sz(I:Inv X c d H s):X.s₀.heap.objs.size<=s⁻¹:=iG I.ok.above (gV I.lt)
theorem Inv.ph(I:Inv X c d H s){a:Addr}(h:s⁻¹<=a):a∉X.fs:=λb=>by
 let⟨_,o,e,_⟩:=I.ok.yr.mem b;exact absurd (qw (Heap.lt_size e) (iG I.sz h)) (Nat.lt_irrefl _)
theorem Inv.Xd(I:Inv X c d H s):∀ x a,X.env.cells.lookup x=⇑a->a≠X.env.locals:=λx a f z=>by
 let⟨v,o,b,e⟩:=I.cell x a f;let⟨m,⟨h,i,j,f,g,_⟩,_⟩:=I.loc;rw[z,f]at b;cases b;rw[g]at e;cases e
def Inv.yr(I:Inv X c d H s):s.heap.FunFrames X.zt X.zn:=by
 let g:∀ (l:List Env),(∀ b∈OA l,b∈X.fs)->X.s₀.heap.FunFrames X.zt l->s.heap.FunFrames X.zt l:=by
  intro l
  induction l with
  | nil=>intro _ _;trivial
  | cons env r h =>
   intro f e;let⟨i,⟨L,o,a,j,k,l⟩,hr⟩:=e;let e:L∈X.fs:=f L (by unfold OA;rw[List.filterMap_cons,a];exact qx);let⟨n,m⟩:=I.zt.slot L o k (I.ok.Xc L e) e λz=>I.ok.SI L z e;exact⟨i,⟨L,_,a,j,m,l⟩,h (λb e=>f b (by unfold OA;rw[List.filterMap_cons,a];exact j0 _ e)) hr⟩
 exact g X.zn (λ_ e=>e) I.ok.yr
def Inv.stack(I:Inv X c d H s):s.heap.FunFrames X.zt X.stack:=by
 rcases I.ok.stk with e|⟨e,a⟩
 ·rw[e];exact I.yr
 ·rw[e];let⟨m,b,_⟩:=I.loc;refine .cons (by rw[I.ok.kind];decide) a b ?_ I.yr;exact Heap.get?_none_of_le (iG I.ok.VG I.ok.above)
theorem Inv.wc(I:Inv X c d H s):∀ b∈OA X.stack,b∈X.env.locals::X.fs:=λb a=>by
 rcases I.ok.stk with e|⟨e,f⟩
 ·rw[e]at a;exact j0 _ a
 ·rw[e]at a;unfold OA at a;rw[List.filterMap_cons,f]at a;exact a
theorem Inv.KU(I:Inv X c d H s):∀ b∈OA X.stack,H b=none:=λb a=>by
 rcases List.mem_cons.mp (I.wc b a) with e|a
 ·rw[e];exact I.free
 ·let⟨_,o,e,_⟩:=I.ok.yr.mem a;exact I.zt.free b o e (I.ok.Xc b a) λz=>I.ok.SI b z a
theorem Inv.step{g':Array GenState}{J:Nat}{d':Drawn}{ch:WF}(I:Inv X c d H s)
  (k:∀ b∈ch,(b∈X.ex\/X.s₀.heap.objs.size<=b)/\b≠X.env.locals/\(∀ x a,X.env.cells.lookup x=⇑a->a≠b)/\∀ p∈X.pn++c,p.1≠b)
  (w:∀ b o,b≠X.env.locals->b∉X.fs->b∉ch->s.heap.get? b=⇑o->H b=none->h'.get? b=⇑o)
  (C:∀ b o,b≠X.env.locals->b∈X.fs->b∉ch->s.heap.get? b=⇑o->H b=none->∃ y,h'.get? b=some { o with slots:=y }) (free:∀ b o,b∉ch->s.heap.get? b=⇑o->H b=none->H' b=none)
  (L:∀ b o,b∉ch->s.heap.get? b=⇑o->∃ l,h'.get? b=⇑l)
  (M:∀ b h,H b=⇑(.tup h)->H' b=⇑(.tup h)) (N:∀ b o u,H b=⇑(.KS o u)->H' b=⇑(.KS o u)) (O:∀ b r,H b=⇑(.VF r)->∃ T,H' b=⇑(.VF (r++T)))
  (U:∀ m,s.heap.Ns X.env.locals m->h'.Ns X.env.locals m) (hok:uK X.prog X.w H' h') (hg:AllBare g') :
  Inv X c d H' { s with heap:=h',gens:=g',drawn:=d',toks:=J }:=by
 let D:∀ b o,X.s₀.heap.get? b=⇑o->b≠X.env.locals:=λb o e=>i9 (qw (Heap.lt_size e) I.ok.above)
 let t:∀ b o,X.s₀.heap.get? b=⇑o->b∉X.ex->b∉ch:=λb o e f i=>by
  rcases (k b i).1 with z|z
  ·exact f z
  ·exact absurd (qw (Heap.lt_size e) z) (Nat.lt_irrefl _)
 let F:∀ x a,X.env.cells.lookup x=⇑a->∀ v,s.heap.IsCell a v->h'.IsCell a v:=λx a e v ⟨o,j,A⟩=>by
  let g:a∉ch:=λz=>(k a z).2.2.1 x a e rfl;by_cases n:a∈X.fs
  ·let⟨y,q⟩:=C a o (I.Xd x a e) n g j (I.sD x a e);exact⟨_,q,A⟩
  ·exact⟨o,w a o (I.Xd x a e) n g j (I.sD x a e),A⟩
 refine⟨I.ok,I.os,hg,⟨λb o e n i f=>?_,λb o e n i f=>?_,λb o e n f=>?_,λb o e f=>?_,λb h e=>M b h (I.zt.tups b h e),λb o h e=>N b o h (I.zt.Dw b o h e),λb r e=>?_⟩,?_,λx a e=>?_,?_,λx a e=>?_,λp G=>?_,hok,I.len⟩
 ·exact w b o (D b o e) i (t b o e f) (I.zt.keep b o e n i f) (I.zt.free b o e n f)
 ·let⟨y,g⟩:=I.zt.slot b o e n i f;let⟨z,q⟩:=C b _ (D b o e) i (t b o e f) g (I.zt.free b o e n f);exact⟨z,q⟩
 ·let⟨l,g⟩:=I.zt.there b o e f;exact free b l (t b o e f) g (I.zt.free b o e n f)
 ·let⟨l,g⟩:=I.zt.there b o e f;exact L b l (t b o e f) g
 ·let⟨f,g⟩:=I.zt.Ft b r e;let⟨i,q⟩:=O b _ g;exact⟨f++i,by rw[q,Array.append_assoc]⟩
 ·let⟨m,f,i⟩:=I.loc;refine⟨m,U m f,λf x v g q t=>?_⟩;let⟨u,D,B⟩:=i f x v g q t;exists u,D;rcases B with B|⟨f,a,e,z⟩
  ·exact .inl B
  ·exact .inr ⟨f,a,e,F x a e _ z⟩
 ·let⟨v,z⟩:=I.cell x a e;exact⟨v,F x a e v z⟩
 ·let⟨m,⟨o,_,_,j,_⟩,_⟩:=I.loc;exact free _ o (λz=>(k _ z).2.1 rfl) j I.free
 ·let⟨v,o,j,A⟩:=I.cell x a e;exact free a o (λz=>(k a z).2.2.1 x a e rfl) j (I.sD x a e)
 ·let⟨e,n,q,B,R⟩:=I.pin p G;let g:p.1∉ch:=λz=>(k p.1 z).2.2.2 p G rfl;exact⟨w p.1 p.2 q B g e n,free p.1 p.2 g e n,q,B,R⟩
def Inv.un{g:Nat}(I:Inv X c d H s)(u:Un X.fs [] H H' s.heap h')(hok:uK X.prog X.w H' h'):Inv X c d H' { s with heap:=h',toks:=g }:=by
 let⟨m,⟨o,b,k,f,r⟩,_⟩:=id I.loc;let⟨b,h⟩:=u.any f I.free (by simp)
 exact I.step (g':=s.gens) (d':=s.drawn) (ch:=[]) (λ_ z=>nomatch z) (λb o _ a _ e n=>u.keep b o e n a (by simp)) (λb o _ a _ e n=>u.slot b o e n a (by simp)) (λb o _ e n=>u.free b o e n (by simp)) (λb o _ e=>u.there b o e (by simp)) u.tups u.Dw u.Ft (λk b=>by
  let⟨k,e,i,a,j⟩:=b;rw[f]at a;cases a
  exact⟨_,e,i,h,j⟩) hok I.bare
theorem Inv.call{h:Array GenState}{l:Nat}{p:Drawn}{f:WF}(I:Inv X c d H s)(u:Un (OA X.stack) f H H' s.heap h')(hok:uK X.prog X.w H' h')(q:AllBare h)
  (i:∀ b∈f,(b∈X.ex\/X.s₀.heap.objs.size<=b)/\b≠X.env.locals/\(∀ x j,X.env.cells.lookup x=⇑j->j≠b)/\∀ r∈X.pn++c,r.1≠b) :
  Inv X c d H' { s with heap:=h',gens:=h,drawn:=p,toks:=l }:=by
 let⟨m,⟨o,e,w,k,y⟩,_⟩:=id I.loc;let⟨e,g⟩:=u.any k I.free λz=>(i _ z).2.1 rfl
 exact I.step (ch:=f) i (λb o g t a e n=>u.keep b o e n (λz=>(List.mem_cons.mp (I.wc b z)).elim g t) a) (λb o _ _ a e n=>u.any e n a) (λb o a e n=>u.free b o e n a) (λb o a e=>u.there b o e a) u.tups u.Dw u.Ft (λo e=>by
  let⟨o,n,t,a,v⟩:=e;rw[k]at a;cases a
  exact⟨_,n,t,g,v⟩) hok q
theorem Inv.turned{t':Nat}{it:Addr}(I:Inv X c d H s)(k:∀ b o,b≠it->s.heap.get? b=⇑o->h'.get? b=⇑o)(i:H it=none)(g:it≠X.env.locals)
  (j:it∈X.ex\/X.s₀.heap.objs.size<=it) (l:∀ x f,X.env.cells.lookup x=⇑f->f≠it) (m:∀ p∈X.pn++c,p.1≠it):Inv X c d H { s with heap:=h',toks:=t' }:=by
 let h:∀ b u,H b=⇑u->b≠it:=λb u e z=>by rw[z,i]at e;cases e
 refine I.step (g':=s.gens) (d':=s.drawn) (ch:=[it]) (λb n=>?_) (λb o _ _ a e _=>k b o (λz=>a (by simp[z])) e) (λb o _ _ a e _=>⟨o.slots,k b o (λz=>a (by simp[z])) e⟩) (λ_ _ _ _ a=>a) (λb o a e=>⟨o,k b o (λz=>a (by simp[z])) e⟩) (λ_ _ e=>e) (λ_ _ _ e=>e) (λb a e=>⟨#[],by rw[e];simp⟩) (λr q=>?_) (λb u e=>?_) I.bare
 ·let e:b=it:=by simpa using n
  subst e;exact⟨j,g,l,m⟩
 ·let⟨o,a,n,r,t⟩:=q;exact⟨o,a,n,k _ o (Ne.symm g) r,t⟩
 ·refine (I.hok b u e).stay (λf v a q=>k f v ?_ q) (λ_ q=>q) λ_ _ q=>q;rcases a with z|z
  ·rw[z];exact h b u e
  ·exact h f _ z
theorem Inv.tok(I:Inv X c d H s)(t:Nat):Inv X c d H { s with toks:=t }:=I.un (h':=s.heap) (g:=t) Un.refl I.hok
theorem Inv.kept{t':Nat}(I:Inv X c d H s)(k:∀ b u,s.heap.get? b=⇑u->h'.get? b=⇑u):Inv X c d H { s with heap:=h',toks:=t' }:=I.un (Un.kept k) (I.hok.kept k)
theorem Inv.laid{a:Addr}{o:HO}{t':Nat}(I:Inv X c d H s)(k:∀ e u,s.heap.get? e=⇑u->h'.get? e=⇑u)(b:s⁻¹<=a)(f:gn X.prog X.w (aO H a o) h' a o) :
  Inv X c d (aO H a o) { s with heap:=h',toks:=t' }:=I.un (Un.laid k b (I.hok.fresh b)) (I.hok.laid k b f)
theorem Inv.write{x e:Addr}{o:HO}{h:Nat}(I:Inv X c d H s)(a:Z5 (H x))(f:e=x\/H e=⇑(.own x))(k:∀ b u,b≠e->s.heap.get? b=⇑u->h'.get? b=⇑u)(g:∃ u,h'.get? e=⇑u)
  (i:gn X.prog X.w (aO H x o) h' x o):Inv X c d (aO H x o) { s with heap:=h',toks:=h }:=I.un (Un.write a f k g) (I.hok.write a f k g i)
theorem Inv.KW(I:Inv X c d H s)(h:∀ p∈a,s.heap.get? p.1=⇑p.2/\H p.1=none/\p.1≠X.env.locals/\p.1∉X.fs/\∀ v,p.2.data≠.cell v):Inv X a d H s :=
 ⟨I.ok,I.os,I.bare,I.zt,I.loc,I.cell,I.free,I.sD,λp b=>(List.mem_append.mp b).elim (λz=>I.pin p (nC _ z)) (h p),I.hok,I.len⟩
def Fv{N:UV}(a:N.Nodup){i j:Nat}{x:Str}(b:N[i]?=⇑x)(e:N[j]?=⇑x):i=j:=by
 let⟨d,c⟩:=List.getElem?_eq_some_iff.mp b;let⟨f,d⟩:=List.getElem?_eq_some_iff.mp e;exact (List.getElem_inj a).mp (c.trans d.symm)
theorem Cd{ak:Model}{am:Around}{E:ZB}{t:Nat}{x:Str}{T:V}{A:Value}{Q:Unit->Shared->Prop}(I:Inv X c d H s)(U:X.N.Nodup)(u:X.N[t]?=⇑x)(i:Loc X.env.scope x)(ab:RelV T A)
  (ae:∀ D,Inv X c (d.set t (⇑T)) H D->(∃ k,Heap.SameBut k s.heap D.heap/\(k=X.env.locals\/X.env.cells.lookup x=⇑k))->Q () D) (hf:X.fn x=true\/X.env.scope.names.lookup x=⇑.local:=by bv_normalize):wpAny ak am (storeName X.env x A) Q E s:=by
 let⟨an,F,S⟩:=id I.loc;let ap:(X.env.scope.kind == .class || (X.env.scope.kind == .module&&X.env.locals != X.env.globals))=false:=by rw[I.ok.kind];rfl
 let W:t<↑d:=by rw[I.len];exact (List.getElem?_eq_some_iff.mp u).1
 let G:=I.Xd
 let ag:∀ {k:Addr} {h':Heap},(∃ o,s.heap.get? k=⇑o/\H k=none)->Heap.SameBut k s.heap h'->uK X.prog X.w H h':=λ{k h'} ha a b ob e=>by
  let⟨_,_,g⟩:=ha;refine (I.hok b ob e).stay (λf B h q=>(a.2 f ?_).trans q) (λ_ q=>q) λ_ _ q=>q;rintro rfl;rcases h with rfl|h
  ·rw[g]at e;cases e
  ·rw[g]at h;cases h
 rcases i with l|l
 ·refine wpAny_storeName_local l F (λh' h a=>?_) ap;let⟨C,_,_,R,_⟩:=id F;refine ae _ ⟨I.ok,I.os,I.bare,⟨λb o e n m i=>?_,λb o e n m i=>?_,I.zt.free,λb o e i=>?_,I.zt.tups,I.zt.Dw,I.zt.Ft⟩,⟨_,h,λv y J g j L=>?_⟩,λy f e=>?_,I.free,I.sD,λr M=>?_,ag ⟨C,R,I.free⟩ a,by simpa using I.len⟩ ⟨_,a,.inl rfl⟩
  ·exact (a.2 b (i9 (qw (Heap.lt_size e) I.ok.above))).trans (I.zt.keep b o e n m i)
  ·let⟨p,g⟩:=I.zt.slot b o e n m i;exact⟨p,(a.2 b (i9 (qw (Heap.lt_size e) I.ok.above))).trans g⟩
  ·let⟨p,g⟩:=I.zt.there b o e i;exact⟨p,(a.2 b (i9 (qw (Heap.lt_size e) I.ok.above))).trans g⟩
  ·by_cases p:v=t
   ·subst p;rw[u]at g;cases g;rw[List.getElem?_set_self W]at j;cases j;exact⟨A,ab,.inl ⟨l,by simp⟩⟩
   ·rw[List.getElem?_set_ne (Ne.symm p)]at j;let⟨N,O,q⟩:=S v y J g j L;exists N,O;rcases q with ⟨w,e⟩|⟨w,f,e,z⟩
    ·refine .inl ⟨w,?_⟩;have:y≠x:=λe=>p (Fv U g (e ▸ u));simp[this,e]
    ·exact .inr ⟨w,f,e,z.sameBut a (G y f e)⟩
  ·let⟨B,z⟩:=I.cell y f e;exact⟨B,z.sameBut a (G y f e)⟩
  ·let⟨e,n,p,N,w⟩:=I.pin r M;exact⟨(a.2 r.1 p).trans e,n,p,N,w⟩
 ·let R:X.fn x=true:=by
   rcases hf with z|z
   ·exact z
   ·rw[z]at l;cases l
  let⟨f,h⟩:=I.ok.has x (.inl l);let⟨B,z⟩:=I.cell x f h;refine wpAny_storeName_cell I.ok.kind l h z (λh' Z9 a=>?_);let⟨oc,ai,aq⟩:=id z;refine ae { s with heap:=h' } ⟨I.ok,I.os,I.bare,⟨λb o e n m i=>?_,λb o e n m i=>?_,I.zt.free,λb o e i=>?_,I.zt.tups,I.zt.Dw,I.zt.Ft⟩,⟨an,F.sameBut a (Ne.symm (G x f h)),λv y J g j L=>?_⟩,λy C e=>?_,I.free,I.sD,λr M=>?_,ag ⟨oc,ai,I.sD x f h⟩ a,by simpa using I.len⟩ ⟨f,a,.inr h⟩
  ·exact (a.2 b (i9 (qw (Heap.lt_size e) (I.ok.Z7 x f R h)))).trans (I.zt.keep b o e n m i)
  ·let⟨p,g⟩:=I.zt.slot b o e n m i;exact⟨p,(a.2 b (i9 (qw (Heap.lt_size e) (I.ok.Z7 x f R h)))).trans g⟩
  ·let⟨p,g⟩:=I.zt.there b o e i;exact⟨p,(a.2 b (i9 (qw (Heap.lt_size e) (I.ok.Z7 x f R h)))).trans g⟩
  ·by_cases p:v=t
   ·subst p;rw[u]at g;cases g;rw[List.getElem?_set_self W]at j;cases j;exact⟨A,ab,.inr ⟨.inl l,f,h,Z9⟩⟩
   ·rw[List.getElem?_set_ne (Ne.symm p)]at j;let⟨N,O,q⟩:=S v y J g j L;exists N,O;rcases q with q|⟨w,C,e,b⟩
    ·exact .inl q
    ·refine .inr ⟨w,C,e,b.sameBut a ?_⟩;rintro rfl;exact p (Fv U g (I.ok.inj _ _ _ e h ▸ u))
  ·by_cases p:C=f
   ·subst p;exact⟨_,Z9⟩
   ·let⟨b,f⟩:=I.cell y C e;exact⟨b,f.sameBut a p⟩
  ·let⟨e,n,p,N,w⟩:=I.pin r M;refine⟨(a.2 r.1 ?_).trans e,n,p,N,w⟩;intro q;rw[q,ai]at e;let a:oc=r.2:=qz e;exact w B (by rw[← a];exact aq)
theorem yW{M:Model}{A:Around}{E:ZB}{i:Nat}{x:Str}{v:V}{u:Value}{Q:Unit->Shared->Prop}(I:Inv X c d H s)(b:X.N.Nodup)(e:X.N[i]?=⇑x)(f:Loc X.env.scope x)(r:RelV v u)
  (h:∀ a,Inv X c (d.set i (⇑v)) H a->Q () a) (g:X.fn x=true\/X.env.scope.names.lookup x=⇑.local:=by bv_normalize):wpAny M A (storeName X.env x u) Q E s :=
 Cd I b e f r (λa j _=>h a j) g
theorem Inv.pr{a:Shared}{e:WF}(I:Inv X c d H s)(g:a.os=s.os)(u:Un (OA X.stack) e H H' s.heap a.heap)(hok:uK X.prog X.w H' a.heap)(h:AllBare a.gens)
  (i:∀ b∈e,(b∈X.ex\/X.s₀.heap.objs.size<=b)/\b≠X.env.locals/\(∀ x f,X.env.cells.lookup x=⇑f->f≠b)/\∀ p∈X.pn++c,p.1≠b):Inv X c d H' a:=by
 let⟨h',j,k,l,m⟩:=a;let n:m=s.os:=g;subst n;exact I.call (h:=j) (l:=l) (p:=k) u hok h i
end
abbrev XK:=Value->Option Addr->Hp->Prop
abbrev St:=List (Option V)
abbrev VK:=V->Hp->Prop
abbrev TE:=St->Hp->VK->Prop
abbrev TT:=St->Hp->(Bool->Hp->Prop)->Prop
abbrev TA:=St->Hp->(List V->Hp->Prop)->Prop
structure Ends where
 nx:St->Hp->Prop
 rt:VK
 bk:St->Hp->Prop:=λ_ _=>False
 ct:St->Hp->Prop:=λ_ _=>False
abbrev TS:=Ends->St->Hp->Prop
def Ends.sq(D:Ends)(u:TS):Ends:={ D with nx:=u D }
def Ends.lp(D:Ends)(N:St->Hp->Prop):Ends:={ D with nx:=N,ct:=N,bk:=D.nx }
inductive EP(X:Cx)(ay:List (Addr × Obj))(σ:St)(Q:VK)(u:Value)(s':Shared):Prop
 | mk (v:V) (a:Hp) (_:Inv X ay σ a s') (_:RelV v u) (_:Q v a)
def TP(b:Cx)(c:List (Addr × Obj))(d:St)(Q:Bool->Hp->Prop)(e:Bool)(f:Shared):Prop:=∃ a,Inv b c d a f/\Q e a
inductive AP(X:Cx)(ay:List (Addr × Obj))(σ:St)(Q:List V->Hp->Prop)(us:WP)(s':Shared):Prop
 | mk (a:List V) (b:Hp) (_:Inv X ay σ b s') (_:cK a us) (_:Q a b)
def SP(c:Cx)(d:List (Addr × Obj))(D:Ends)(f:Flow)(e:Shared):Prop :=
 match f with
 | .next=>∃ b a,Inv c d b a e/\D.nx b a
 | .brk=>∃ b a,Inv c d b a e/\D.bk b a
 | .cont=>∃ b a,Inv c d b a e/\D.ct b a
 | .ret u=>∃ v b a,Inv c d b a e/\RelV v u/\D.rt v a
def PE(a:Cx)(e:Expr)(t:TE):Prop :=
 ∀ (c:List (Addr × Obj)) (s:Shared) (b:St) (H:Hp) (Q:VK),Inv a c b H s->t b H Q->wpAny (model a.prog a.w) a.A (eval e a.env) (EP a c b Q) a.xe s
def PT(a:Cx)(e:Expr)(t:TT):Prop :=
 ∀ (c:List (Addr × Obj)) (s:Shared) (b:St) (H:Hp) (Q:Bool->Hp->Prop),Inv a c b H s->t b H Q->wpAny (model a.prog a.w) a.A (isTrue e a.env (eval e a.env)) (TP a c b Q) a.xe s
def PW(a:Cx)(e:Expr)(t:TT):Prop :=
 ∀ (d:Sem Value) (c:List (Addr × Obj)) (s:Shared) (b:St) (H:Hp) (Q:Bool->Hp->Prop),Inv a c b H s->t b H Q->wpAny (model a.prog a.w) a.A (isTrue e a.env d) (TP a c b Q) a.xe s
theorem PW.pt{a:Cx}{e:Expr}{t:TT}(h:PW a e t):PT a e t:=h _
def PA(a:Cx)(d:List Expr)(t:TA):Prop :=
 ∀ (e:Pos) (c:List (Addr × Obj)) (s:Shared) (b:St) (H:Hp) (Q:List V->Hp->Prop),Inv a c b H s->t b H Q->wpAny (model a.prog a.w) a.A (spliced (backTo e (starEach d a.env))) (AP a c b Q) a.xe s
def PS(a:Cx)(d:Stmt)(t:TS):Prop :=
 ∀ (b:List (Addr × Obj)) (s:Shared) (c:St) (H:Hp) (D:Ends),Inv a b c H s->t D c H->wpAny (model a.prog a.w) a.A (exec d a.env) (SP a b D) a.xe s
def KZ(a:Cx)(d:List Stmt)(t:TS):Prop :=
 ∀ (b:List (Addr × Obj)) (s:Shared) (c:St) (H:Hp) (D:Ends),Inv a b c H s->t D c H->wpAny (model a.prog a.w) a.A (execs d a.env) (SP a b D) a.xe s
theorem dP{a:Type}{t:Sem a}{Q b:a->Shared->Prop}{M:Model}{A:Around}{E:ZB}{s:Shared}(h:wpAny M A t Q E s)(d:∀ c s,Q c s->b c s):wpAny M A t b E s:=wpAny_mono h d λ_ _ x=>x
end _L2
namespace _L2
open Spec Rows
section
variable {X:Cx}
inductive SJ(i:Nat)(σ:St)(H:Hp)(Q:VK):Prop
 | mk (v:V) (_:σ[i]?=⇑(⇑v)) (_:Q v H)
inductive eA(x:V)(H:Hp)(Q:Bool->Hp->Prop):Prop
 | mk (f:Bool) (_:x=.bl f) (_:Q f H)
inductive pu(x:V)(H:Hp)(Q:Option Int->Hp->Prop):Prop
 | mk (i:Int) (_:x=.int i) (_:Q (⇑i) H)
def tC(v:V):TE:=λ_ H Q=>Q v H
def Xe{i:Nat}{x:Str}(g:X.N[i]?=⇑x)(j:ew X.env.scope x)(f:(x == ("u":Str))=false:=by decide)(k:(x == ("__classdict__":Str))=false:=by decide):PE X (.Name x c) (SJ i):=by
 intro l s m H Q I h;let⟨v,n,h⟩:=h;let⟨r,o,p⟩:=I.loc;let⟨u,r,q⟩:=p i x v g n j;let b:EP X l m Q u s:=⟨v,H,I,r,h⟩;rcases q with ⟨a,h⟩|⟨a,l,d,e⟩
 ·exact wpAny_Name (wpAny_loadName_local I.ok.kind a o h b) f
 ·rcases a with a|a
  ·exact wpAny_Name (wpAny_loadName_cell I.ok.kind a d e b) f
  ·exact wpAny_Name (wpAny_loadName_free I.ok.kind a d e b k) f
theorem az{i j c}:PE X (.Constant (.int i) j c) (tC (.int i)):=λ_ _ _ H _ I h=>wpAny_Constant_int ⟨.int i,H,I.tok _,⟨Y⟩,h⟩
theorem nG{b j c}:PE X (.Constant (.bool b) j c) (tC (.bl b)):=λ_ _ _ H _ I h=>Constant_bool ⟨.bl b,H,I,1,h⟩
theorem Xf{j c}:PE X (.Constant .none j c) (tC .gc):=λ_ _ _ H _ I h=>Constant_none ⟨.gc,H,I,1,h⟩
theorem bw{x j c}:PE X (.Constant (.str x) j c) (tC (.str x)):=λ_ _ _ H _ I h=>Calls.Constant_str ⟨.str x,H,I.tok _,⟨Y⟩,h⟩
def Gl(X:Cx)(x:Str):Prop:=X.env.kindOf x=some .globalImplicit
theorem yO{E:ZB}{s:Shared}{f:St}{H:Hp}{x:Str}{u:Value}{Q:ZB}(I:Inv X k f H s)(g:Gl X x)(h:X.mg x=⇑u)(i:Q u s)
  (j:(x == ("u":Str))=false:=by decide):wpAny (model X.prog X.w) X.A (eval (.Name x c) X.env) Q E s :=
 Calls.Name_function_global I.ok.kind g (Calls.loadGlobal_global (by rw[I.ok.glob];exact I.mod.glob.keeps I.bk) h i) j
theorem we{E:ZB}{s:Shared}{f:St}{H:Hp}{x:Str}{u:Value}{Q:ZB}(I:Inv X m f H s)(g:Gl X x)(h:X.mg x=none)(i:bootBuiltins x=⇑u)(j:Q u s)
  (k:x≠"X":=by decide) (l:(x == ("u":Str))=false:=by decide):wpAny (model X.prog X.w) X.A (eval (.Name x c) X.env) Q E s:=by
 let⟨d,a,b⟩:=I.mod.blt;exact Calls.Name_function_global I.ok.kind g (Calls.loadGlobal_builtin (by rw[I.ok.glob];exact I.mod.glob.keeps I.bk) h (by rw[I.ok.blt];exact a.keeps I.bk) ((b x k).trans i) j) l
def Dz{x:Str}{v:V}{u:Value}(f:Gl X x)(g:X.mg x=⇑u)(r:RelV v u)(h:(x == ("u":Str))=false:=by decide):PE X (.Name x c) (tC v) :=
 λ_ _ _ H _ I a=>yO I f g ⟨v,H,I,r,a⟩ h
theorem SK{x:Str}{v:V}{u:Value}(f:Gl X x)(g:X.mg x=none)(h:bootBuiltins x=⇑u)(r:RelV v u)(i:x≠"X":=by decide)(j:(x == ("u":Str))=false:=by decide):PE X (.Name x c) (tC v) :=
 λ_ _ _ H _ I a=>we I f g h ⟨v,H,I,r,a⟩ i j
variable {a b:Expr} {d tb:TE} {c:Pos}
def PC(X:Cx)(f:CmpOp)(a b:Expr)(t:TE):Prop :=
 ∀ (d:List (Addr × Obj)) (s:Shared) (c:St) (H:Hp) (Q:VK),Inv X d c H s->t c H Q->
  wpAny (model X.prog X.w) X.A (eval a X.env) (λv e=>wpAny (model X.prog X.w) X.A (eval b X.env) (λu g=>wpAny (model X.prog X.w) X.A (compareOp f v u) (EP X d c Q) X.xe g) X.xe e) X.xe s
def Fw(b:Expr){f:CmpOp}(h:f≠.In)(g:f≠.NotIn):behindInMarks f b=false:=by
 let a:(f == CmpOp.In)=false:=by cases f <;> first|rfl|exact absurd rfl h
 let c:(f == CmpOp.NotIn)=false:=by cases f <;> first|rfl|exact absurd rfl g
 cases b <;> simp[behindInMarks,a,c]
def px(d:TE):TE:=fun a H Q=>d a H λx a=>Q (.bl (decide (x=.gc))) a
def py(d:TE):TE:=fun a H Q=>d a H λx a=>Q (.bl (!decide (x=.gc))) a
def RelV.Fx{x:V}{v:Value}(r:RelV x v):(v == Value.none)=decide (x=.gc):=by
 cases x with
 | gc=>cases r;rfl
 | bl _=>cases r;rfl
 | int _=>let⟨t,rfl⟩:=r;rfl
 | str _=>let⟨t,rfl⟩:=r;rfl
 | IF _=>let⟨t,rfl⟩:=r;rfl
 | VE _=>let⟨t,rfl⟩:=r;rfl
 | ref _=>cases r;rfl
 | ty _=>cases r;rfl
def IG{j f}(g:PE X a d):PC X .Is a (.Constant .none j f) (px d):=by
 intro b s c H Q I h;refine dP (g b s c H _ I h) λv c b=>?_;let⟨x,c,e,h,i⟩:=b;exact Constant_none (is_none_gen ⟨.bl _,c,e,by rw[h.Fx];rfl,i⟩)
def SM{j f}(g:PE X a d):PC X .IsNot a (.Constant .none j f) (py d):=by
 intro b s c H Q I h;refine dP (g b s c H _ I h) λv c b=>?_;let⟨x,c,e,h,i⟩:=b;exact Constant_none (isnot_none_gen ⟨.bl _,c,e,by rw[h.Fx];rfl,i⟩)
def tB(t:TE):TT:=fun a H Q=>t a H λx a=>eA x a Q
def OD{f:CmpOp}{t:TE}(h:PC X f a b t)(g:behindInMarks f b=false:=by ac_nf):PE X (.Compare a [f] [b] c) t:=λd s e H Q I i=>wpAny_Compare1 (h d s e H Q I i) g
def DA{f:CmpOp}{t:TE}(h:PC X f a b t)(g:behindInMarks f b=false:=by ac_nf):PT X (.Compare a [f] [b] c) (tB t):=by
 intro d s e H Q I i;refine wpAny_isTrue_Compare1 (dP (h d s e H _ I i) λv d g=>dP g λu e d=>dP d λd e ⟨x,j,k,l,m⟩=>?_) g;let⟨n,rfl,q⟩:=m;cases l;exact wpAny_truthy_bool ⟨j,k,q⟩
def jq{f:Expr}{t:TE}(h:PE X f t)(i:∀ g,isTrue f X.env g=(do let v ← g;standAt f.pos;holding [v] (truthy v)):=by intro _;rfl):PT X f (tB t):=by
 intro a s b H Q I c;refine isTrue_plain (dP (h a s b H _ I c) λv a ⟨x,d,e,j,k⟩=>?_) (i _);let⟨l,rfl,q⟩:=k;cases j;exact wpAny_truthy_bool ⟨d,e,q⟩
variable {e eB:TT} {uO:List Expr}
def pz(t u:TT):TT:=fun a H Q=>t a H λc b=>if c=true then u a b Q else Q false b
def pE(t u:TT):TT:=fun a H Q=>t a H λc b=>if c=true then Q true b else u a b Q
def pX(t:TT):TT:=fun a H Q=>t a H λc a=>Q (!c) a
def lZ(f:PT X a e):PW X (.BoolOp .And [a] c) e:=by
 intro j d s g H Q I h;refine isTrue_and (dP (f d s g H Q I h) λi d b=>?_)
 cases i with
 | true=>exact isTrue_and_nil b
 | false=>exact b
def DB(f:PT X a e):PW X (.BoolOp .Or [a] c) e:=by
 intro j d s g H Q I h;refine isTrue_or (dP (f d s g H Q I h) λi d b=>?_)
 cases i with
 | false=>exact isTrue_or_nil b
 | true=>exact b
def oW(j:PT X a e)(k:PW X (.BoolOp .And (b::uO) c) eB):PW X (.BoolOp .And (a::b::uO) c) (pz e eB):=by
 intro l d s f H Q I m;refine isTrue_and (dP (j d s f H _ I m) λn o m=>?_);let⟨g,h,i⟩:=m
 cases n with
 | true=>exact k l d o f g Q h i
 | false=>exact⟨g,h,i⟩
def FA(j:PT X a e)(k:PW X (.BoolOp .Or (b::uO) c) eB):PW X (.BoolOp .Or (a::b::uO) c) (pE e eB):=by
 intro l d s f H Q I m;refine isTrue_or (dP (j d s f H _ I m) λn o m=>?_);let⟨g,h,i⟩:=m
 cases n with
 | true=>exact⟨g,h,i⟩
 | false=>exact k l d o f g Q h i
def iY(f:PT X a e):PT X (.UnaryOp .Not a c) (pX e):=by
 intro b s d H Q I h;exact isTrue_not (f b s d H (λb d=>Q (!b) d) I h)
def p3(d tb:TE):TE:=fun b H Q=>d b H λx a=>eA x a λc a=>if c=true then tb b a Q else Q (.bl false) a
def p'(d:TE):TE:=fun a H Q=>d a H λx a=>eA x a λc a=>Q (.bl (!c)) a
theorem qA{f}{t:TE}(h:PE X a t):PE X (.BoolOp f [a] c) t:=λb s d H Q I e=>BoolOp_one (h b s d H Q I e)
def oX(j:PE X a d)(k:PE X (.BoolOp .And (b::uO) c) tb):PE X (.BoolOp .And (a::b::uO) c) (p3 d tb):=by
 intro f s g H Q I l;refine BoolOp_and (dP (j f s g H _ I l) λv m l=>?_);let⟨x,h,i,n,e⟩:=l;let⟨o,rfl,e⟩:=e;cases n;refine wpAny_truthy_bool ?_
 cases o with
 | true=>exact k f m g h Q i e
 | false=>exact⟨.bl false,h,i,1,e⟩
def Xg(f:PE X a d):PE X (.UnaryOp .Not a c) (p' d):=by
 intro e s g H Q I h;refine UnaryOp_ (dP (f e s g H _ I h) λv g e=>?_);let⟨x,i,j,k,b⟩:=e;let⟨l,rfl,b⟩:=b;cases k;exact not_of (wpAny_truthy_bool ⟨.bl (!l),i,j,1,b⟩)
def qa(t:TT)(d tb:TE):TE:=fun a H Q=>t a H λc b=>if c=true then d a b Q else tb a b Q
def FE{h:Expr}(m:PT X h e)(n:PE X a d)(o:PE X b tb):PE X (.IfExp h a b c) (qa e d tb):=by
 intro f s g H Q I p;refine wpAny_IfExp (dP (m f s g H _ I p) λq i p=>?_);let⟨j,k,l⟩:=p
 cases q with
 | true=>exact n f i g j Q k l
 | false=>exact o f i g j Q k l
end
end _L2
namespace _L2
open Spec Rows
def bJ(K:Frag)(H:Hp)(b:Addr)(c:List V):Prop :=
 Rd H b (.lst c)\/
  ∃ (o:Obj) (a:Xt) (n:Nat),K.lookup b=⇑o/\o.cls=.type "h"/\o.dict=none/\o.data=.seq a n/\a.size<=sizeLine/\cK c a.toList
def dN(K:Frag)(H:Hp)(b:Addr)(c:List V):Prop :=
 Rd H b (.tup c)\/
  ∃ (o:Obj) (a:Xt) (n:Nat),K.lookup b=⇑o/\o.cls=.type "s"/\o.data=.seq a n/\a.size<=sizeLine/\cK c a.toList
def qd:Value->Option V
 | .none=>⇑.gc
 | .bool b=>⇑(.bl b)
 | .int i _=>⇑(.int i)
 | .str x _=>⇑(.str x)
 | .bytes b _=>⇑(.IF b)
 | .float b _=>⇑(.VE b)
 | .ref a=>⇑↥a
 | .type n=>⇑(.ty n)
 | _=>none
def RelV.abs{x:V}{u:Value}(r:RelV x u):qd u=⇑x:=by
 cases x with
 | gc=>cases r;rfl
 | bl _=>cases r;rfl
 | int _=>let⟨t,rfl⟩:=r;rfl
 | str _=>let⟨t,rfl⟩:=r;rfl
 | IF _=>let⟨t,rfl⟩:=r;rfl
 | VE _=>let⟨t,rfl⟩:=r;rfl
 | ref _=>cases r;rfl
 | ty _=>cases r;rfl
theorem RelV.inj{x y:V}{u:Value}(r:RelV x u)(q:RelV y u):x=y:=qz (r.abs.symm.trans q.abs)
theorem cK.inj:∀ {a b:List V} {c:WP},cK a c->cK b c->a=b
 | _,_,_,.nil,.nil=>rfl
 | _,_,_,.cons r t,.cons d e=>by rw[r.inj d,cK.inj t e]
section
variable {X:Cx} {ay:List (Addr × Obj)} {σ:St} {H:Hp} {s:Shared} {a:Addr} {xs ys:List V}
theorem bJ.of{K:Frag}(h:H a=⇑(.lst xs)):bJ K H a xs:=.inl (.inl h)
theorem dN.of{K:Frag}(h:H a=⇑(.tup xs)):dN K H a xs:=.inl (.inl h)
def Inv.list(I:Inv X ay σ H s)(h:bJ X.K H a xs):∃ b:List Value,cK xs b/\PlainL s.heap a b.toArray/\↑xs<=sizeLine:=by
 rcases h with h|⟨o,b,n,c,d,f,g,e,r⟩
 ·let⟨z,b,n,r,e⟩:=h.ok I.hok;exact⟨b,r,⟨_,n,e,V,1⟩,z⟩
 ·refine⟨b.toList,r,⟨o,n,I.xH a o c,d,f,by simpa using g⟩,?_⟩;let e:=↑r;simp only[Array.length_toList]at e;lia
def Inv.tuple(I:Inv X ay σ H s)(h:dN X.K H a xs):∃ b:List Value,cK xs b/\IsTup s.heap a b.toArray/\↑xs<=sizeLine:=by
 rcases h with h|⟨o,b,n,c,d,e,f,r⟩
 ·let⟨z,b,r,p⟩:=h.ok I.hok;exact⟨b,r,p,z⟩
 ·refine⟨b.toList,r,⟨o,I.xH a o c,d,n,by simpa using e⟩,?_⟩;let e:=↑r;simp only[Array.length_toList]at e;lia
def Inv.FF(I:Inv X ay σ H s)(h:bJ X.K H a xs)(d:bJ X.K H a ys):xs=ys:=by
 let⟨e,r,⟨o,n,f,_,_,g⟩,_⟩:=I.list h;let⟨i,j,⟨k,l,b,_,_,c⟩,_⟩:=I.list d;rw[f]at b;cases b;rw[g]at c;injection c with b _;have:e=i:=by simpa using congrArg Array.toList b
 subst this;exact r.inj j
def Inv.Ce(I:Inv X ay σ H s)(h:dN X.K H a xs)(d:dN X.K H a ys):xs=ys:=by
 let⟨e,r,⟨o,f,_,n,g⟩,_⟩:=I.tuple h;let⟨i,j,⟨k,b,_,l,c⟩,_⟩:=I.tuple d;rw[f]at b;cases b;rw[g]at c;injection c with b _;have:e=i:=by simpa using congrArg Array.toList b
 subst this;exact r.inj j
end
abbrev Cx.Bm(a:Cx)(E:ZB):Cx:={ a with xe:=E }
abbrev Cx.K0(a:Cx):Cx:=a.Bm λ_ _=>False
theorem Cx.Ok.Bm{b:Cx}(a:b.Ok)(E:ZB):(b.Bm E).Ok :=
 ⟨a.mod,a.kind,a.glob,a.blt,a.above,a.inj,a.has,a.Z7,a.hd,a.frames,a.stk,a.hH,a.bs,a.VG,a.OB,a.SI,a.yr,a.Xc⟩
theorem Cx.Ok.qB{b:Cx}{E:ZB}(a:(b.Bm E).Ok):b.Ok :=
 ⟨a.mod,a.kind,a.glob,a.blt,a.above,a.inj,a.has,a.Z7,a.hd,a.frames,a.stk,a.hH,a.bs,a.VG,a.OB,a.SI,a.yr,a.Xc⟩
section
variable {X:Cx} {ay:List (Addr × Obj)} {σ:St} {H:Hp} {s:Shared} {E:ZB}
theorem Inv.Bm(I:Inv X ay σ H s)(E:ZB):Inv (X.Bm E) ay σ H s:=⟨I.ok.Bm E,I.os,I.bare,I.zt,I.loc,I.cell,I.free,I.sD,I.pin,I.hok,I.len⟩
theorem Inv.qB(I:Inv (X.Bm E) ay σ H s):Inv X ay σ H s:=⟨I.ok.qB,I.os,I.bare,I.zt,I.loc,I.cell,I.free,I.sD,I.pin,I.hok,I.len⟩
def SP.qB{D:Ends}{f:Flow}{c:Shared}(h:SP (X.Bm E) ay D f c):SP X ay D f c:=by
 cases f with
 | next=>let⟨a,b,I,q⟩:=h;exact⟨a,b,I.qB,q⟩
 | brk=>let⟨a,b,I,q⟩:=h;exact⟨a,b,I.qB,q⟩
 | cont=>let⟨a,b,I,q⟩:=h;exact⟨a,b,I.qB,q⟩
 | ret u=>let⟨v,a,b,I,r,q⟩:=h;exact⟨v,a,b,I.qB,r,q⟩
theorem KZ.K0{a:List Stmt}{t:TS}(h:KZ X.K0 a t):KZ X a t:=λay s σ H D I b =>
 wpAny_mono (h ay s σ H D (I.Bm _) b) (λ_ _ q=>q.qB) λ_ _ z=>False.elim z
end
section
variable {X:Cx} {st:Stmt} {uO:List Stmt} {t u:TS} {e:Expr} {te:TE} {pos:Pos}
def qe:TS:=λD a H=>D.nx a H
def qf(t u:TS):TS:=λD a H=>t (D.sq u) a H
theorem bu:KZ X [] qe:=λ_ _ a H _ I h=>wpAny_execs_nil ⟨a,H,I,h⟩
def aj(b:PS X st t)(c:KZ X uO u):KZ X (st::uO) (qf t u):=by
 intro a s d H D I h;refine wpAny_execs_cons (dP (b a s d H (D.sq u) I h) λf e q=>?_)
 cases f with
 | next =>
  let⟨d,f,g,q⟩:=q;exact c a e d f D g q
 | ret v=>exact q
 | brk=>exact q
 | cont=>exact q
def au(a:PS X st t):KZ X [st] t:=by
 intro b s c H D I h;refine wpAny_execs_cons (dP (a b s c H D I h) λf b q=>?_)
 cases f with
 | next=>exact wpAny_execs_nil q
 | ret v=>exact q
 | brk=>exact q
 | cont=>exact q
def qh:TS:=λD a H=>D.ct a H
theorem FG:PS X (.Continue pos) qh:=λ_ _ a H _ I h=>wpAny_Continue ⟨a,H,I,h⟩
def Inv.quiet{a:St}{H:Hp}{s:Shared}(I:Inv X b a H s):interactive X.env=false:=by simp[interactive,I.ok.kind]
def qi(te:TE):TS:=λD a H=>te a H λ_ b=>D.nx a b
def aT(b:PE X e te)(c:swapsWith e none pos.line X.env=pure false:=by rfl):PS X (.Expr e pos) (qi te):=by
 intro d s a H D I h;exact wpAny_Expr_any (dP (b d s a H _ I h) λv h ⟨x,d,f,i,g⟩=>⟨a,d,f,g⟩) I.quiet c
def qj(te:TE):TS:=λD a H=>te a H D.rt
def aK(b:PE X e te):PS X (.Return (⇑e) pos) (qj te):=by
 intro c s a H D I h;exact wpAny_Return_some (dP (b c s a H _ I h) λv h ⟨x,c,d,f,g⟩=>⟨x,a,c,d,f,g⟩)
def qk(c:TT)(t u:TS):TS:=λD a H=>c a H λd b=>if d=true then t D a b else u D a b
def bN{c:Expr}{d f:List Stmt}{g:TT}(k:PT X c g)(l:KZ X d t)(m:KZ X f u):PS X (.If c d f pos) (qk g t u):=by
 intro a s b H D I n;refine wpAny_If (dP (k a s b H _ I n) λo e n=>?_);let⟨h,i,j⟩:=n
 cases o with
 | true=>exact l a e b h D i j
 | false=>exact m a e b h D i j
def Xh:TS:=λ_ _ _=>False
theorem iH:PS X st Xh:=λ_ _ _ _ _ _ h=>h.elim
end
abbrev TG:=V->St->Hp->(St->Hp->Prop)->Prop
abbrev Xi:=List V->St->Hp->(St->Hp->Prop)->Prop
def PG(a:Cx)(e:Expr)(t:TG):Prop :=
 ∀ (b:List (Addr × Obj)) (s:Shared) (c:St) (H:Hp) (v:V) (u:Value) (Q:St->Hp->Prop),Inv a b c H s->RelV v u->t v c H Q->
  wpAny (model a.prog a.w) a.A (assign e a.env u) (λ_ f=>∃ c d,Inv a b c d f/\Q c d) a.xe s
def a'(a:Cx)(f:List Expr)(t:Xi):Prop :=
 ∀ (b:List (Addr × Obj)) (s:Shared) (c:St) (H:Hp) (d:List V) (e:WP) (Q:St->Hp->Prop),Inv a b c H s->cK d e->t d c H Q->
  wpAny (model a.prog a.w) a.A (assignInOrder ((assignEach f a.env).map (·.2)) e) (λ_ e=>∃ c d,Inv a b c d e/\Q c d) a.xe s
abbrev Xj:=V->V->V->Hp->(Hp->Prop)->Prop
def hP(a:Cx)(t:Xj):Prop :=
 ∀ (b:List (Addr × Obj)) (s:Shared) (c:St) (H:Hp) (o i v:V) (d e u:Value) (Q:Hp->Prop),Inv a b c H s->RelV o d->RelV i e->RelV v u->t o i v H Q->
  wpAny (model a.prog a.w) a.A (setItem d e u) (λ_ e=>∃ d,Inv a b c d e/\Q d) a.xe s
abbrev eD:=V->V->Hp->VK->Prop
def fv(a:Cx)(d:Operator)(t:eD):Prop :=
 ∀ (b:List (Addr × Obj)) (s:Shared) (c:St) (H:Hp) (x y:V) (v u:Value) (Q:VK),Inv a b c H s->RelV x v->RelV y u->t x y H Q->
  wpAny (model a.prog a.w) a.A (inplaceOp d v u) (EP a b c Q) a.xe s
section
variable {X:Cx} {pos:Pos}
def qC(i:Nat):TG:=λv a H Q=>Q (a.set i (⇑v)) H
def SN{i:Nat}{x:Str}(a:X.N.Nodup)(b:X.N[i]?=⇑x)(c:Loc X.env.scope x)(d:X.fn x=true\/X.env.scope.names.lookup x=⇑.local:=by bv_normalize):PG X (.Name x pos) (qC i):=by
 intro e s f H v u Q I r h;exact wpAny_assign_Name (yW I a b c r (λf e=>⟨_,H,e,h⟩) d)
def ql:Xi:=λa b H Q=>a=[]/\Q b H
inductive qq(t:TG)(u:Xi)(vs:List V)(σ:St)(H:Hp)(Q:St->Hp->Prop):Prop
 | mk (v:V) (r:List V) (_:vs=v::r) (_:t v σ H fun σ' H'=>u r σ' H' Q)
def gB:a' X [] ql:=by
 intro b s a H c d Q I r h;let⟨e,h⟩:=h;subst e;cases r;exact assignInOrder_nil ⟨a,H,I,h⟩
theorem bR{e:Expr}{a:List Expr}{t:TG}{u:Xi}(c:PG X e t)(d:a' X a u)
  (f:(assignEach (e::a) X.env).map (·.2)=assign e X.env::(assignEach a X.env).map (·.2):=by rfl):a' X (e::a) (qq t u):=by
 intro b s g H j k Q I r h;let⟨v,j,i,h⟩:=h;subst i
 cases r with
 | cons r i =>
  rw[f];refine assignInOrder_cons (dP (c b s g H _ _ _ I r h) λ_ g h=>?_);let⟨j,k,l,m⟩:=h;exact d b g j k _ _ Q l i m
inductive Xk(K:Frag)(n:Nat)(t:Xi)(v:V)(σ:St)(H:Hp)(Q:St->Hp->Prop):Prop
 | mk (a:Addr) (b:List V) (_:v=↥a) (_:dN K H a b) (_:↑b=n) (_:t b σ H Q):Xk K n t v σ H Q
theorem j6{a:List Expr}{k:Nat}{t:Xi}{n:Nat}(g:X.calm=true)(h:a' X a t)
  (i:↑(assignEach a X.env)=n:=by rfl) (j:(assignEach a X.env).findIdx? (·.1)=none:=by rfl):PG X (.Tuple a k pos) (Xk X.K n t):=by
 intro c s d H v u Q I r b;let⟨o,l,e,f,m,b⟩:=b;subst e;cases r;let⟨p,e,o,q⟩:=I.tuple f;refine assign_Tuple_tuple (I.ok.hd g) o (by simp[i,← m,e.length]) j λf m=>?_;have o:Inv X c d H { s with heap:=f }:=I.kept (t':=s.toks) λp q f=>m p q (i9 (Heap.lt_size f)) f;exact h c _ d H l _ Q o (by simpa using e) b
def qr(b c:TE)(t:Xj):TG:=λv a H Q=>b a H λo d=>c a d λi d=>t o i v d λd=>Q a d
theorem oY{i:Expr}{e f:TE}{t:Xj}(g:PE X o e)(h:PE X i f)(j:hP X t)
  (k:∀ v,assign (.Subscript o i pos) X.env v=(do
   let a ← holding [v] (eval o X.env)
   let b ← holding [v,a] (eval i X.env)
   standAt pos
   holding [v,a,b] (setItem a b v)
   release [v,a,b] []):=by intro _;rfl):PG X (.Subscript o i pos) (qr e f t):=by
 intro d s c H v u Q I r l;rw[k];refine wpAny_bind (wpAny_holding (dP (g d s c H _ I l) λa l m=>?_));let⟨x,n,p,q,w⟩:=m;refine wpAny_bind (wpAny_holding (dP (h d l c n _ p w) λb l m=>?_));let⟨y,n,p,w,z⟩:=m;refine wpAny_bind (wpAny_standAt (wpAny_bind (wpAny_holding (dP (j d l c n x y v a b u _ p q w r z) λ_ l d=>?_))));let⟨l,m,n⟩:=d;exact wpAny_release ⟨c,l,m,n⟩
def OE(b:TE)(g:TG):TS:=λD a H=>b a H λx c=>g x a c D.nx
theorem mS{e:Expr}{b:TE}{g:TG}(f:PE X e b)(h:PG X a g)(i:swapsWithSole [a] e pos.line X.env=pure false:=by rfl)(j:swappedStores [a] e X.env=pure none:=by rfl)
  (k:(assignEach [a] X.env).map (·.2)=[assign a X.env]:=by rfl):PS X (.Assign [a] e pos) (OE b g):=by
 intro c s d H D I l;refine wpAny_Assign_stores (dP (f c s d H _ I l) λv l ⟨x,m,n,o,p⟩=>?_) i j;rw[k];exact dP (h c l d m x v _ n o p) λ_ c q=>q
theorem Xl{i:Nat}{x:Str}{e:Expr}{a:TE}(b:X.N.Nodup)(c:X.N[i]?=⇑x)(d:Loc X.env.scope x)(f:PE X e a)(g:swapsWith e (⇑(.Name x h)) pos.line X.env=pure false:=by rfl)(j:X.fn x=true\/X.env.scope.names.lookup x=⇑.local:=by bv_normalize) :
  PS X (.Assign [.Name x h] e pos) (OE a (qC i)):=by
 intro k s l H D I m;refine wpAny_Assign_Name (dP (f k s l H _ I m) λv o ⟨y,k,l,m,n⟩=>?_) g;exact yW l b c d m (λm l=>⟨_,k,l,n⟩) j
def qs(i:Nat)(b:TE)(c:eD):TS:=λD a H=>∃ x,a[i]?=⇑(⇑x)/\b a H λy d=>c x y d λz d=>D.nx (a.set i (⇑z)) d
def tS{i:Nat}{x:Str}{e:Expr}{f:TE}{b:Operator}{g:eD}{n:Pos}(o:X.N.Nodup)(j:X.N[i]?=⇑x)(c:Loc X.env.scope x)(p:PE X e f)(q:fv X b g)(t:X.fn x=true\/X.env.scope.names.lookup x=⇑.local:=by bv_normalize) :
  PS X (.AugAssign (.Name x n) b e pos) (qs i f g):=by
 intro d s l H D I h;let⟨v,w,h⟩:=h;let⟨r,y,z⟩:=I.loc;let A:ew X.env.scope x:=by rcases c with k|k;exact .inl k;exact .inr (.inl k)
 let⟨u,r,B⟩:=z i x v j w A;refine wpAny_AugAssign_Name ?_
 let m:wpAny (model X.prog X.w) X.A (eval e X.env) (λw a=>wpAny (model X.prog X.w) X.A (inplaceOp b u w) (λr z=>wpAny (model X.prog X.w) X.A (storeName X.env x r) (λ_=>SP X d D .next) X.xe z) X.xe a) X.xe s:=by
  refine dP (p d s l H _ I h) λw a h=>?_;let⟨z,A,C,D,F⟩:=h;refine dP (q d a l A v z u w _ C r D F) λz d a=>?_;let⟨u,d,h,l,r⟩:=a;exact yW h o j c l (λh a=>⟨_,d,a,r⟩) t
 rcases B with ⟨a,d⟩|⟨a,h,C,F⟩
 ·exact wpAny_loadName_local I.ok.kind a y d m
 ·rcases a with a|a
  ·exact wpAny_loadName_cell I.ok.kind a C F m
  ·rcases c with k|k
   ·have:X.env.scope.names.lookup x=⇑.free:=a;rw[k]at this;cases this
   ·have:X.env.scope.names.lookup x=⇑.free:=a;rw[k]at this;cases this
def qu(f:Int->Int->Int):eD:=λx y H Q=>∃ i j,x=.int i/\y=.int j/\Q (.int (f i j)) H
def OF:fv X .Add (qu λi j=>i+j):=by
 intro e s f H x y v u Q I a b h;let⟨i,j,c,d,q⟩:=h;subst c;subst d;let⟨t,rfl⟩:=a;let⟨g,rfl⟩:=b;exact iadd_int ⟨.int _,H,I.tok _,⟨Y⟩,q⟩
end
section
variable {X:Cx} {pos:Pos}
def Xm(f:TT)(g:TS):TS:=λD a H=>∃ W:Nat->St->Hp->Prop,(∃ m,W m a H)/\∀ m a H,W m a H->
 f a H λc b=>if c=true then ∃ N:St->Hp->Prop,(∀ c d,N c d->∃ e,e<m/\W e c d)/\g (D.lp N) a b else D.nx a b
def qD{k:Expr}{l:TT}{m:TS}(o:PassesOwn (model X.prog X.w) X.A X.env X.xe)(t:PT X k l)(u:KZ X v m):PS X (.While k v [] pos) (Xm l m):=by
 intro a s f H D I h;let⟨W,⟨g,i⟩,j⟩:=h;refine wpAny_While (codeAny_whileLoop (λn d=>∃ b c,Inv X a b c d/\W n b c) ?_ g ⟨f,H,I,i⟩);rintro n f ⟨c,b,g,h⟩;refine wpAny_passesOwn o (dP (t a f c b _ g (j n c b h)) λw x b=>?_);let⟨p,q,d⟩:=b
 cases w with
 | true =>
  let⟨N,r,d⟩:=d;rw[if_pos rfl];refine wpAny_passesOwn o (dP (u a x c p _ q d) λy a e=>?_)
  cases y with
  | next =>
   let⟨a,b,f,g⟩:=e;let⟨h,i,j⟩:=r a b g;exact⟨h,i,a,b,f,j⟩
  | cont =>
   let⟨a,b,f,g⟩:=e;let⟨h,i,j⟩:=r a b g;exact⟨h,i,a,b,f,j⟩
  | brk=>exact e
  | ret a=>exact e
 | false =>
  rw[if_neg gP];exact wpAny_execs_nil ⟨c,p,q,d⟩
end
structure It where
 go:Nat->Hp->Prop
 OG:Nat->Hp->V->Hp->Prop
 stop:Nat->Hp->Prop
def oZ(a:Cx)(d:List (Addr × Obj))(H:Hp)(b:Addr):Prop :=
 H b=none/\b≠a.env.locals/\b∉a.fs/\(b∈a.ex\/a.s₀.heap.objs.size<=b)/\(∀ x c,a.env.cells.lookup x=⇑c->c≠b)/\∀ p∈a.pn++d,p.1≠b
def Inv.Mw{c:Cx}{e:St}{H d:Hp}{s:Shared}{b:Addr}(I:Inv c f e H s)(a:s⁻¹<=b)(g:d b=none):oZ c f d b:=by
 refine⟨g,Nat.ne_of_gt (qw I.lt a),I.ph a,.inr (iG I.sz a),λx h i z=>?_,λp j z=>?_⟩
 ·let⟨v,q⟩:=I.cell x h i;exact absurd (qw q.lt (by rw[z];exact a)) (Nat.lt_irrefl _)
 ·exact absurd (qw (Heap.lt_size (I.pin p j).1) (by rw[z];exact a)) (Nat.lt_irrefl _)
structure IL(P:Program)(w:World)(K:Frag)(tg:Expr)(J:It)(fp:WF)(it:Addr)(tn:Nat->Heap->Prop):Prop where
 mem:it∈fp
 obj:∀ i h,tn i h->∀ b∈fp,∃ o,h.get? b=⇑o/\∀ v,o.data≠.cell v
 keep:∀ i h h',tn i h->(∀ b∈fp,∀ o,h.get? b=⇑o->h'.get? b=⇑o)->tn i h'
 item:∀ (X:Cx),X.prog=P->X.w=w->X.K=K->X.calm=true->∀ (i:Nat) (ay:List (Addr × Obj)) (s:Shared) (σ:St) (H:Hp) (E:ZB),Inv X ay σ H s->(∀ b∈fp,oZ X ay H b)->tn i s.heap->J.go i H->
  wpAny (model P w) X.A (pyNext ↥it) (λr s1=>∃ u,r=⇑u/\
   wpAny (model P w) X.A (letOwnedTupleGo tg ↥it u) (λ_ s2=>∃ x H',Inv X ay σ H' s2/\RelV x u/\J.OG i H x H'/\tn (i+1) s2.heap/\∀ b∈fp,H' b=none) E s1) E s
 done:∀ (X:Cx),X.prog=P->X.w=w->X.K=K->X.calm=true->∀ (i:Nat) (ay:List (Addr × Obj)) (s:Shared) (σ:St) (H:Hp) (E:ZB),Inv X ay σ H s->(∀ b∈fp,oZ X ay H b)->tn i s.heap->J.stop i H->
  wpAny (model P w) X.A (pyNext ↥it) (λr s1=>r=none/\Inv X ay σ H s1) E s
 self:∀ (A:Around) (i:Nat) (s:Shared) (Q:ZB) (E:ZB),tn i s.heap->Q ↥it s->wpAny (model P w) A (pyIter ↥it) Q E s
abbrev TI:=St->Hp->(It->Hp->Prop)->Prop
def fw(a:Cx)(c:List (Addr × Obj))(h:St)(i:Expr)(j:It->Hp->Prop)(k:Value)(d:Shared):Prop :=
 ∃ (e:Addr) (f:WF) (g:Nat->Heap->Prop) (J:It) (b:Hp),k=↥e/\Inv a c h b d/\IL a.prog a.w a.K i J f e g/\g 0 d.heap/\(∀ l∈f,oZ a c b l)/\j J b
def PI(a:Cx)(d e:Expr)(f:TI):Prop :=
 ∀ (c:List (Addr × Obj)) (s:Shared) (b:St) (H:Hp) (R:It->Hp->Prop),Inv a c b H s->f b H R->
  wpAny (model a.prog a.w) a.A (eval e a.env) (λv g=>wpAny (model a.prog a.w) a.A (pyIter v) (fw a c b d R) a.xe g) a.xe s
theorem FH{M:Model}{A:Around}{E:ZB}{s:Shared}{b:Addr}{u:Value}{o:Obj}{n:String}{c:Xt}{Q:Unit->Shared->Prop}(d:s.heap.get? b=⇑o)(e:o.cls=.type n)(f:o.data=.fields c)
  (g:["enumerate","zip","dict_itemiterator","U","odict_iterator","3","itertools.pairwise"].contains n=false) (a:Q () s):wpAny M A (letOwnedTupleGo i ↥b u) Q E s:=by
 unfold letOwnedTupleGo
 cases i <;> first
  | exact wpAny_pure a
  | (cases u <;> first
    | exact wpAny_pure a
    | (refine wpAny_bind (wpAny_load d ?_);rw[e,f];show wpAny M A (if (["enumerate","zip","dict_itemiterator","U","odict_iterator","3","itertools.pairwise"].contains n&&c[0]? == some (rawInt _))=true then _ else _) Q E s;rw[if_neg (by intro h;rw[g,Bool.false_and]at h;cases h)];exact wpAny_pure a))
def OH(K:Frag)(b:Addr):It :=
 ⟨λi H=>∃ a x,bJ K H b a/\a[i]?=⇑x,λi H x c=>c=H/\∀ a,bJ K H b a->a[i]?=⇑x,λi H=>∃ a,bJ K H b a/\↑a<=i⟩
def b'(K:Frag)(b:Addr):It :=
 ⟨λi H=>∃ a x,dN K H b a/\a[i]?=⇑x,λi H x c=>c=H/\∀ a,dN K H b a->a[i]?=⇑x,λi H=>∃ a,dN K H b a/\↑a<=i⟩
def K9(lo:Int)(n:Nat):It:=⟨λi _=>i<n,λi H x a=>a=H/\x=.int (lo+i),λi _=>n<=i⟩
theorem Mx{P:Program}{J:World}{K:Frag}(z b:Addr):IL P J K tg (OH K z) [b] b (λi h=>h.IsListIter b z i) where
 mem:=by simp
 obj:=λi h a c d=>by
  let e:c=b:=by simpa using d
  subst e;let⟨o,e,A,k⟩:=a;exact⟨o,e,λv f=>by rw[k]at f;cases f⟩
 keep:=λi h f a F=>a.at λo e=>F b (by simp) o e
 item:=by
  intro X l m n B i C s D H E I g a p;subst l m n;let⟨L,M,j,q⟩:=p;let⟨N,r,t,O⟩:=I.list j;let⟨F,G,R⟩:=r.get q;let⟨u,v,S,w,x,y⟩:=g b (by simp);refine wpAny_pyNext_list_item a t.isList (x:=F) (by simpa using G) λf G T=>?_;have U:Inv X C D H { s with heap:=f }:=I.turned (t':=s.toks) (λc o d e=>(T.2 c d).trans e) u v w x y;let⟨o,e,A,k⟩:=id G;exact⟨F,1,FH (s:={ s with heap:=f }) e A k (by decide) ⟨M,H,U,R,⟨1,λA k=>by rw[I.FF k j];exact q⟩,G,λc d=>(g c d).1⟩⟩
 done:=by
  intro X l m n B i C s D H E I g a p;subst l m n;let⟨L,j,q⟩:=p;let⟨N,r,t,O⟩:=I.list j;let⟨u,v,S,w,x,y⟩:=g b (by simp);let g:=↑r;exact wpAny_pyNext_list_end (I.ok.hd B) a t.isList (by simp;lia) λf f=>⟨1,I.turned (t':=s.toks) (λc o d e=>f c o d e) u v w x y⟩
 self:=λ_ _ _ _ _ a h=>wpAny_pyIter_listiter a h
theorem IM{P:Program}{L:World}{K:Frag}(f b:Addr):IL P L K tg (b' K f) [b] b (λi h=>h.IsTupleIter b f i) where
 mem:=by simp
 obj:=λi h a c d=>by
  let e:c=b:=by simpa using d
  subst e;let⟨o,e,B,l⟩:=a;exact⟨o,e,λv z=>by rw[l]at z;cases z⟩
 keep:=λi h g a G=>a.at λo e=>G b (by simp) o e
 item:=by
  intro X m n p C i D s F H E I j a q;subst m n p;let⟨M,N,k,r⟩:=q;let⟨t,u,v,O⟩:=I.tuple k;let⟨G,J,R⟩:=u.get r;let⟨w,x,S,y,z,A⟩:=j b (by simp);refine wpAny_pyNext_tuple_item a (show s.heap.IsTuple f t.toArray from v) (x:=G) (by simpa using J) λg J T=>?_;have U:Inv X D F H { s with heap:=g }:=I.turned (t':=s.toks) (λc o d e=>(T.2 c d).trans e) w x y z A;let⟨o,e,B,l⟩:=id J;exact⟨G,1,FH (s:={ s with heap:=g }) e B l (by decide) ⟨N,H,U,R,⟨1,λB l=>by rw[I.Ce l k];exact r⟩,J,λc d=>(j c d).1⟩⟩
 done:=by
  intro X m n p C i D s F H E I j a q;subst m n p;let⟨M,k,r⟩:=q;let⟨t,u,v,O⟩:=I.tuple k;let⟨w,x,S,y,z,A⟩:=j b (by simp);let j:=↑u;exact wpAny_pyNext_tuple_end (I.ok.hd C) a (show s.heap.IsTuple f t.toArray from v) (by simp;lia) λg g=>⟨1,I.turned (t':=s.toks) (λc o d e=>g c o d e) w x y z A⟩
 self:=λ_ _ _ _ _ a h=>wpAny_pyIter_tupleiter a h
theorem yZ{P:Program}{B:World}{K:Frag}(b:Addr)(lo:Int)(n:Nat):IL P B K M (K9 lo n) [b] b (λi h=>IsRangeIter h b (lo+(i:Nat)*1) ((n:Int)-(i:Nat)) 1) where
 mem:=by simp
 obj:=λi h a c d=>by
  let e:c=b:=by simpa using d
  subst e
  exact⟨_,a,λw z=>by
   let f:Data.fields _=Data.cell w:=z
   cases f⟩
 keep:=λi h f a C=>C b (by simp) _ a
 item:=by
  intro X j k l m i x s y H E I g a o;subst j k l;let⟨p,q,D,r,t,u⟩:=g b (by simp);let W:=Walks.range (prog:=X.prog) (w:=X.w) (I.ok.hd m) b lo 1 n;refine W.item i s _ _ o a λw f z F A G=>?_;let⟨J,rfl⟩:=F;have L:Inv X x y H { s with heap:=f,toks:=z }:=I.turned (λc v d e=>G c v (by simpa using d) e) p q r t u;refine⟨Y,FH (s:={ s with heap:=f,toks:=z }) (n:="range_iterator") A rfl rfl (by decide) ⟨.int (lo+i),H,L,⟨J,?_⟩,⟨V⟩,A,λc d=>(g c d).1⟩⟩;rw[Int.mul_one]
 done:=by
  intro X j k l m i x s y H E I g a o;subst j k l;let⟨p,q,D,r,t,u⟩:=g b (by simp);exact wpAny_pyNext_range_end (I.ok.hd m) a (by have:n<=i:=o;lia) λf f=>⟨1,I.turned (t':=s.toks) (λc v d e=>f c v d e) p q r t u⟩
 self:=λ_ _ _ _ _ a h=>wpAny_pyIter_rangeiter a h
end _L2
namespace _L2
open Spec Rows
section
variable {X:Cx} {tg:Expr}
inductive q0(K:Frag)(x:V)(H:Hp)(R:It->Hp->Prop):Prop
 | mk (a:Addr) (_:x=↥a) (_:∃ b,bJ K H a b) (_:R (OH K a) H)
def VJ(K:Frag)(a:TE):TI:=fun b H R=>a b H λx b=>q0 K x b R
def q1(K:Frag)(c:TE):TI:=fun a H R=>c a H λx b=>∃ a,x=↥a/\(∃ d,dN K b a d)/\R (b' K a) b
def cC{l:Expr}{d:TE}(g:PE X l d):PI X tg l (VJ X.K d):=by
 intro h s i H R I j;refine dP (g h s i H _ I j) λv b h=>?_;let⟨x,k,c,m,i⟩:=h;let⟨a,e,⟨h,n⟩,q⟩:=i;subst e;cases m;let⟨h,i,p,j⟩:=c.list n;refine wpAny_pyIter_list p.isList ?_;refine⟨b⁻¹,[b⁻¹],E,k,1,c.kept (t':=b.toks) λf o e=>Heap.get?_push_of_some _ e,Mx a _,⟨_,Heap.get?_push_size _ rfl,V⟩,λf h=>?_,q⟩;have e:f=b⁻¹:=by simpa using h
 subst e;exact c.Mw (fF _) (c.hok.fresh (fF _))
def Xn{l:Expr}{d:TE}(g:PE X l d):PI X tg l (q1 X.K d):=by
 intro h s i H R I j;refine dP (g h s i H _ I j) λv b h=>?_;let⟨x,k,c,m,i⟩:=h;let⟨a,e,⟨h,n⟩,q⟩:=i;subst e;cases m;let⟨h,i,p,j⟩:=c.tuple n;refine wpAny_pyIter_tuple (show b.heap.IsTuple a h.toArray from p) ?_;refine⟨b⁻¹,[b⁻¹],E,k,1,c.kept (t':=b.toks) λf o e=>Heap.get?_push_of_some _ e,IM a _,⟨_,Heap.get?_push_size _ rfl,V⟩,λf h=>?_,q⟩;have e:f=b⁻¹:=by simpa using h
 subst e;exact c.Mw (fF _) (c.hok.fresh (fF _))
theorem OI{b:St}{H:Hp}{s:Shared}{g:It->Hp->Prop}{E:ZB}{lo a:Int}{t u v:Tok}{c:Nat}(I:Inv X h b H s)(i:-(2^62)<=lo)(j:lo<2^62)(k:-(2^62)<=a)(l:a<2^62)
  (q:g (K9 lo (a-lo).toNat) H):wpAny (model X.prog X.w) X.A (pyIter ↥s⁻¹) (fw X h b tg g) E { s with heap:=s.heap.push { cls:=.type "y",data:=.fields (List.toArray [.int lo t,.int a u,.int 1 v]) },toks:=c }:=by
 refine wpAny_pyIter_range (IsRange.new ..) (small_one i j k l) ?_;let d:Inv X h b H { s with heap:=s.heap.push { cls:=.type "y",data:=.fields (List.toArray [.int lo t,.int a u,.int 1 v]) },toks:=c }:=I.kept λf o e=>Heap.get?_push_of_some _ e;refine⟨(s.heap.push { cls:=.type "y",data:=.fields (List.toArray [.int lo t,.int a u,.int 1 v]) }).objs.size,[(s.heap.push { cls:=.type "y",data:=.fields (List.toArray [.int lo t,.int a u,.int 1 v]) }).objs.size],E,H,1, d.kept (t':=c) λf o e=>Heap.get?_push_of_some _ e,yZ _ lo (a-lo).toNat,?_,λf m=>?_,q⟩
 ·let n:lo+((0:Nat):Int)*1=lo:=by simp
  let p:(((a-lo).toNat:Nat):Int)-((0:Nat):Int)=Builtin.Range.rangeSize lo a 1:=by rw[rangeSize_one];split <;> lia
  show IsRangeIter _ _ (lo+((0:Nat):Int)*1) ((((a-lo).toNat:Nat):Int)-((0:Nat):Int)) 1;rw[n,p];exact Heap.get?_push_size _ rfl
 ·let e:f=(s.heap.push { cls:=.type "y",data:=.fields (List.toArray [.int lo t,.int a u,.int 1 v]) }).objs.size:=by simpa using m
  subst e;exact d.Mw (fF _) (d.hok.fresh (fF _))
inductive rd(vs:List V)(H:Hp)(R:It->Hp->Prop):Prop
 | mk (j:Int) (_:vs=[.int j]) (_:-(2^62)<=j) (_:j<2^62) (_:R (K9 0 j.toNat) H)
def re(a:TA):TI:=fun b H R=>a b H λb c=>rd b c R
def jA{a:Expr}{c:TA}{p:Pos}(d:Gl X "y")(e:X.mg "y"=none)(f:PA X [a] c)(g:starEach [a] X.env=[(false,eval a X.env)]:=by rfl):PI X tg (.Call (.Name "y" p) [a] [] h) (re c):=by
 intro i s j H R I k;refine Call_ (we I d e boot_range (PyProof.Rows.callWith_type1 (dP (f h i s j H _ I k) λi j ⟨k,u,l,m,b⟩=>?_) g rfl));let⟨j,n,b,o,q⟩:=b;subst n
 cases m with
 | cons r t =>
  cases t;let⟨v,rfl⟩:=r;exact call_range_1 (OI l ∅ ∅ b o (by simpa using q))
def rh(e:TI)(g:TG)(f:TS):TS:=λD a H=>e a H λJ b=>∃ W:Nat->Nat->St->Hp->Prop,(∃ m,W 0 m a b)/\∀ i m a H,W i m a H->
 (J.stop i H/\D.nx a H)\/(J.go i H/\∃ N:St->Hp->Prop,(∀ c b,N c b->∃ d,d<m/\W (i+1) d c b)/\∀ x b,J.OG i H x b->g x a b fun a c=>f (D.lp N) a c)
def tT(a:WF)(h:Heap):List (Addr × Obj):=a.filterMap λb=>(h.get? b).map λo=>(b,o)
theorem iI{a:WF}{h:Heap}{b:Addr}{o:Obj}(c:b∈a)(e:h.get? b=⇑o):(b,o)∈tT a h:=List.mem_filterMap.mpr ⟨b,c,by rw[e];rfl⟩
def My{a:WF}{h:Heap}{p:Addr × Obj}(c:p∈tT a h):p.1∈a/\h.get? p.1=⇑p.2:=by
 let⟨b,d,e⟩:=List.mem_filterMap.mp c
 cases q:h.get? b with
 | none=>rw[q]at e;cases e
 | some o =>
  rw[q]at e;let f:(b,o)=p:=qz e;subst f;exact⟨d,q⟩
theorem Inv.pinned{c:St}{H:Hp}{s:Shared}{a:WF}(I:Inv X d c H s)(h:∀ b∈a,oZ X d H b)(i:∀ b∈a,∃ o,s.heap.get? b=⇑o/\∀ v,o.data≠.cell v):Inv X (d++tT a s.heap) c H s :=
 I.KW λp e=>(List.mem_append.mp e).elim (λz=>I.pin p (mP _ z)) λz=>by
  let⟨e,f⟩:=My z;let⟨j,k,l,_⟩:=h p.1 e;let⟨o,g,m⟩:=i p.1 e;rw[f]at g;cases g;exact⟨f,j,k,l,m⟩
theorem Inv.ou{b:List (Addr × Obj)}{a:St}{H:Hp}{s:Shared}(I:Inv X (c++b) a H s):Inv X c a H s:=I.KW λp d=>I.pin p (mP _ (nC _ d))
theorem eO{r:Expr}{v:TI}{w:TG}{y:TS}(j:PassesOwn (model X.prog X.w) X.A X.env X.xe)(z:X.calm=true)(J:PI X tg r v)(L:PG X tg w)(a:KZ X M y)
  (N:∀ x,foldedSetIterable r X.env x=pure x:=by intro _;rfl):PS X (.For tg r M [] am) (rh v w y):=by
 intro h s A O an R S;refine wpAny_For (dP (J h s A O _ R S) λU R O=>dP O λR S O=>?_) N;let⟨it,k,B,R,H2,l,I2,T,ab,C,W,⟨m0,w0⟩,mT⟩:=O;subst l;let t:∀ {f:Hp},(∀ b∈k,f b=none)->∀ b∈k,oZ X h f b:=λO b a=>⟨O b a,(C b a).2⟩;refine codeAny_forLoop_any (λp c=>∃ i m f,Inv X h m f c/\B i c.heap/\(∀ b∈k,f b=none)/\W i p m f) ?_ m0 ⟨0,A,H2,I2,ab,λb a=>(C b a).1,w0⟩;rintro p D ⟨i,n,q,F,G,H,w3⟩;rcases mT i p n q w3 with ⟨stop,qn⟩|⟨go,ae,hN,step⟩
 ·refine wpAny_passesOwn j (dP (T.done X rfl rfl rfl z i h D n q X.xe F (t H) G stop) λag s4 c=>?_);let⟨u,d⟩:=c;subst u;exact wpAny_execs_nil ⟨n,q,d,qn⟩
 ·refine wpAny_passesOwn j (dP (T.item X rfl rfl rfl z i h D n q X.xe F (t H) G go) λag s4 q=>?_);let⟨ai,u,h4⟩:=q;subst u;refine wpAny_passesOwn j (dP h4 λ_ u C=>?_);let⟨x,A,D,F,G,q,H⟩:=C;let C:=D.pinned (t H) (T.obj _ _ q);refine wpAny_passesOwn j (dP (L _ u n A x ai _ C F (step x A G)) λ_ n t=>?_);let⟨A,C,D,F⟩:=t;refine wpAny_passesOwn j (dP (a _ n A C _ D F) λak n g=>?_)
  let I:∀ {c:St} {d:Hp},Inv X (h++tT k u.heap) c d n->ae c d->∃ t,t<p/\∃ i m f,Inv X h m f n/\B i n.heap/\(∀ b∈k,f b=none)/\W i t m f:=λ{c d} e o=>by
   let⟨f,h,k⟩:=hN c d o;refine⟨f,h,i+1,c,d,e.ou,T.keep _ _ _ q λb a f l=>(e.pin (b,f) (mP _ (mP _ (iI a l)))).1,λb a=>?_,k⟩;let⟨f,l,h⟩:=T.obj _ _ q b a;exact (e.pin (b,f) (mP _ (mP _ (iI a l)))).2.1
  cases ak with
  | next=>let⟨c,d,e,o⟩:=g;exact I e o
  | cont=>let⟨c,d,e,o⟩:=g;exact I e o
  | brk=>let⟨c,d,e,g⟩:=g;exact⟨c,d,e.ou,g⟩
  | ret U=>let⟨b,c,d,e,f,g⟩:=g;exact⟨b,c,d,e.ou,f,g⟩
end
theorem dG{K:Frag}{e:Addr}{b:List V}{k:TG}{l:TS}{D:Ends}{a:St}{H:Hp}(c:Nat->St->Hp->Prop)(r:c 0 a H)(t:∀ i a H,i<=↑b->c i a H->bJ K H e b)
  (u:∀ i x a H,b[i]?=⇑x->c i a H->k x a H fun f g=>l (D.lp (c (i+1))) f g) (v:∀ a H,c ↑b a H->D.nx a H) :
  ∃ W:Nat->Nat->St->Hp->Prop,(∃ m,W 0 m a H)/\∀ i m a H,W i m a H->
   ((OH K e).stop i H/\D.nx a H)\/((OH K e).go i H/\∃ N:St->Hp->Prop,(∀ h d,N h d->∃ n,n<m/\W (i+1) n h d)/\∀ x d,(OH K e).OG i H x d->k x a d fun f g=>l (D.lp N) f g):=by
 refine⟨λi m a H=>m=↑b-i/\i<=↑b/\c i a H,⟨↑b,by simp,mR _,r⟩,?_⟩;rintro i m a H ⟨rfl,o,p⟩;let q:=t i a H o p;by_cases o:i<↑b
 ·refine .inr ⟨⟨b,b[i],q,by simp[o]⟩,c (i+1),fun h d s=>⟨↑b-(i+1),by lia,1,o,s⟩,λx d y=>?_⟩;let⟨j,y⟩:=y;subst j;exact u i x a _ (y b q) p
 ·let j:i=↑b:=by lia
  subst j;exact .inl ⟨⟨b,q,fF _⟩,v a H p⟩
theorem SR{K:Frag}{e:Addr}{b:List V}{k:TG}{l:TS}{D:Ends}{a:St}{H:Hp}(c:Nat->St->Hp->Prop)(r:c 0 a H)(t:∀ i a H,i<=↑b->c i a H->dN K H e b)
  (u:∀ i x a H,b[i]?=⇑x->c i a H->k x a H fun f g=>l (D.lp (c (i+1))) f g) (v:∀ a H,c ↑b a H->D.nx a H) :
  ∃ W:Nat->Nat->St->Hp->Prop,(∃ m,W 0 m a H)/\∀ i m a H,W i m a H->
   ((b' K e).stop i H/\D.nx a H)\/((b' K e).go i H/\∃ N:St->Hp->Prop,(∀ h d,N h d->∃ n,n<m/\W (i+1) n h d)/\∀ x d,(b' K e).OG i H x d->k x a d fun f g=>l (D.lp N) f g):=by
 refine⟨λi m a H=>m=↑b-i/\i<=↑b/\c i a H,⟨↑b,by simp,mR _,r⟩,?_⟩;rintro i m a H ⟨rfl,o,p⟩;let q:=t i a H o p;by_cases o:i<↑b
 ·refine .inr ⟨⟨b,b[i],q,by simp[o]⟩,c (i+1),fun h d s=>⟨↑b-(i+1),by lia,1,o,s⟩,λx d y=>?_⟩;let⟨j,y⟩:=y;subst j;exact u i x a _ (y b q) p
 ·let j:i=↑b:=by lia
  subst j;exact .inl ⟨⟨b,q,fF _⟩,v a H p⟩
theorem oz{lo:Int}{n:Nat}{j:TG}{k:TS}{D:Ends}{a:St}{H:Hp}(c:Nat->St->Hp->Prop)(o:c 0 a H)
  (q:∀ i a H,i<n->c i a H->j (.int (lo+i)) a H fun d e=>k (D.lp (c (i+1))) d e) (r:∀ a H,c n a H->D.nx a H) :
  ∃ W:Nat->Nat->St->Hp->Prop,(∃ m,W 0 m a H)/\∀ i m a H,W i m a H->
   ((K9 lo n).stop i H/\D.nx a H)\/((K9 lo n).go i H/\∃ N:St->Hp->Prop,(∀ f b,N f b->∃ l,l<m/\W (i+1) l f b)/\∀ x b,(K9 lo n).OG i H x b->j x a b fun d e=>k (D.lp N) d e):=by
 refine⟨λi m a H=>m=n-i/\i<=n/\c i a H,⟨n,by simp,mR _,o⟩,?_⟩;rintro i m a H ⟨rfl,s,p⟩;by_cases g:i<n
 ·refine .inr ⟨g,c (i+1),fun f b s=>⟨n-(i+1),by lia,1,g,s⟩,λx b y=>?_⟩;let⟨h,y⟩:=y;subst h y;exact q i a _ g p
 ·let h:i=n:=by lia
  subst h;exact .inl ⟨Nat.le_refl _,r a H p⟩
end _L2
namespace _L2
open Spec Rows
abbrev R2:=V->V->Hp->VK->Prop
def tV(a:Cx)(f:Value->Value->Sem Value)(r:R2):Prop :=
 ∀ (b:List (Addr × Obj)) (s:Shared) (c:St) (H:Hp) (x y:V) (v u:Value) (Q:VK),Inv a b c H s->RelV x v->RelV y u->r x y H Q->
  wpAny (model a.prog a.w) a.A (f v u) (EP a b c Q) a.xe s
def fy(a:Cx)(f:Value->Sem Value)(r:V->Hp->VK->Prop):Prop :=
 ∀ (b:List (Addr × Obj)) (s:Shared) (c:St) (H:Hp) (x:V) (v:Value) (Q:VK),Inv a b c H s->RelV x v->r x H Q->
  wpAny (model a.prog a.w) a.A (f v) (EP a b c Q) a.xe s
def jB(a:Cx)(f:Value)(r:List V->Hp->VK->Prop):Prop :=
 ∀ (b:List (Addr × Obj)) (s:Shared) (c:St) (H:Hp) (d:List V) (e:WP) (Q:VK),Inv a b c H s->cK d e->r d H Q->
  wpAny (model a.prog a.w) a.A (call f e) (EP a b c Q) a.xe s
def rj(a:Cx)(r:V->Hp->(Bool->Hp->Prop)->Prop):Prop :=
 ∀ (b:List (Addr × Obj)) (s:Shared) (c:St) (H:Hp) (x:V) (v:Value) (Q:Bool->Hp->Prop),Inv a b c H s->RelV x v->r x H Q->
  wpAny (model a.prog a.w) a.A (truthy v) (TP a b c Q) a.xe s
def c'(r:R2)(b c:TE):TE:=fun a H Q=>b a H λx d=>c a d λy a=>r x y a Q
def rm(r:V->Hp->VK->Prop)(a:TE):TE:=fun b H Q=>a b H λx b=>r x b Q
inductive rI(C:Int->Int->Prop)(g:Int->Int->V)(x y:V)(H:Hp)(Q:VK):Prop
 | mk (i j:Int) (_:x=.int i) (_:y=.int j) (_:C i j) (_:Q (g i j) H):rI C g x y H Q
inductive VL(g:Int->Int->V)(x y:V)(H:Hp)(Q:VK):Prop
 | mk (i j:Int) (_:x=.int i) (_:y=.int j) (_:Q (g i j) H)
def rU(g:Int->V):V->Hp->VK->Prop:=λx H Q=>∃ i,x=.int i/\Q (g i) H
section
variable {X:Cx} {a b c:Expr} {ta tb tc:TE} {pos:Pos}
theorem Xo(k:PE X a ta)(l:PE X b tb){f:List (Addr × Obj)}{s:Shared}{d:St}{H:Hp}{i:V->V->Hp->Prop}(I:Inv X f d H s)
  (m:ta d H λx h=>tb d h λy e=>i x y e) {Q:ZB} {j:Value->Value->Sem Value}
  (n:∀ v u g x y e,Inv X f d e g->RelV x v->RelV y u->i x y e->wpAny (model X.prog X.w) X.A (j v u) Q X.xe g) :
  wpAny (model X.prog X.w) X.A (eval a X.env) (λv o=>wpAny (model X.prog X.w) X.A (eval b X.env) (λu p=>wpAny (model X.prog X.w) X.A (j v u) Q X.xe p) X.xe o) X.xe s:=by
 refine dP (k f s d H _ I m) λv c q=>?_;let⟨x,h,r,t,w⟩:=q;refine dP (l f c d h _ r w) λu g c=>?_;let⟨y,e,q,r,w⟩:=c;exact n v u g x y e q t r w
def bG{d:Operator}{r:R2}(e:tV X (binaryOp d) r)(f:PE X a ta)(g:PE X b tb):PE X (.BinOp a d b pos) (c' r ta tb):=by
 intro c s h H Q I i;exact wpAny_BinOp (Xo f g I i λv u i x y j k l m q=>e c i h j x y v u Q k l m q)
def iE{d:UnaryOp}{r:V->Hp->VK->Prop}(e:fy X (unaryOp d) r)(f:PE X a ta):PE X (.UnaryOp d a pos) (rm r ta):=by
 intro b s c H Q I h;exact UnaryOp_ (dP (f b s c H _ I h) λv g ⟨x,h,i,j,k⟩=>e b g c h x v Q i j k)
theorem eI{f:Value->Value->Sem Value}{C:Int->Int->Prop}{g:Int->Int->Int}
  (d:∀ (i j:Int) (t u:Tok) (s:Shared) (Q:ZB) (E:ZB),C i j->Q (.int (g i j) s.toks) { s with toks:=s.toks+1 }->wpAny (model X.prog X.w) X.A (f (.int i t) (.int j u)) Q E s) :
  tV X f (rI C λi j=>.int (g i j)):=by
 intro k s l H x y v u Q I a b h;let⟨i,j,rfl,rfl,c,q⟩:=h;let⟨t,rfl⟩:=a;let⟨e,rfl⟩:=b;exact d i j t e s _ _ c ⟨.int (g i j),H,I.tok _,⟨Y⟩,q⟩
theorem hT{f:Value->Value->Sem Value}{g:Int->Int->Int}
  (d:∀ (i j:Int) (t u:Tok) (s:Shared) (Q:ZB) (E:ZB),Q (.int (g i j) s.toks) { s with toks:=s.toks+1 }->wpAny (model X.prog X.w) X.A (f (.int i t) (.int j u)) Q E s) :
  tV X f (VL λi j=>.int (g i j)):=by
 intro e s k H x y v u Q I a b h;let⟨i,j,rfl,rfl,q⟩:=h;let⟨t,rfl⟩:=a;let⟨c,rfl⟩:=b;exact d i j t c s _ _ ⟨.int (g i j),H,I.tok _,⟨Y⟩,q⟩
theorem SS{f:Value->Value->Sem Value}{g:Int->Int->Bool}
  (d:∀ (i j:Int) (t u:Tok) (s:Shared) (Q:ZB) (E:ZB),Q (.bool (g i j)) s->wpAny (model X.prog X.w) X.A (f (.int i t) (.int j u)) Q E s) :
  tV X f (VL λi j=>.bl (g i j)):=by
 intro e s k H x y v u Q I a b h;let⟨i,j,rfl,rfl,q⟩:=h;let⟨t,rfl⟩:=a;let⟨c,rfl⟩:=b;exact d i j t c s _ _ ⟨.bl (g i j),H,I,1,q⟩
def rn(i j:Int):Prop:=0<=j/\j<=1000000/\i.natAbs<2^64
def Xp(i j:Int):Prop:=(-(2^64)<i/\i<2^64)\/(-(2^64)<j/\j<2^64)
def Xp.ok{i j:Int}(h:Xp i j):IntMulOk i j:=by
 rcases h with ⟨a,b⟩|⟨a,b⟩
 ·exact .of_left (intBits_le_64 a b)
 ·exact .of_right (intBits_le_64 a b)
theorem dY:tV X (binaryOp .Add) (VL λi j=>.int (i+j)):=hT λ_ _ _ _ _ _ _ q=>add_int q
theorem dH:tV X (binaryOp .Sub) (VL λi j=>.int (i-j)):=hT λ_ _ _ _ _ _ _ q=>sub_int q
theorem IP:tV X (binaryOp .Mult) (rI Xp λi j=>.int (i*j)):=eI λ_ _ _ _ _ _ _ a q=>mul_int q a.ok
theorem y9:tV X (binaryOp .Mod) (rI (λ_ j=>0<j) λi j=>.int (i % j)):=eI λi j _ _ _ _ _ a q=>by
 let b:(0:Int)<j:=a;exact mod_int' ∅ (by rw[Int.fmod_eq_emod_of_nonneg i ∅];exact q)
theorem IQ:tV X (binaryOp .Pow) (rI rn λi j=>.int (i^j.toNat)):=eI λ_ _ _ _ _ _ _ a q=>pow_int_small a.1 a.2.1 a.2.2 q
theorem ro{f:Value->Sem Value}{g:Int->Int}
  (d:∀ (i:Int) (t:Tok) (s:Shared) (Q:ZB) (E:ZB),Q (.int (g i) s.toks) { s with toks:=s.toks+1 }->wpAny (model X.prog X.w) X.A (f (.int i t)) Q E s) :
  fy X f (rU λi=>.int (g i)):=by
 intro b s c H x v Q I a h;let⟨i,rfl,q⟩:=h;let⟨t,rfl⟩:=a;exact d i t s _ _ ⟨.int (g i),H,I.tok _,⟨Y⟩,q⟩
theorem gf:fy X (unaryOp .USub) (rU λi=>.int (-i)):=ro λ_ _ _ _ _ q=>neg_int q
end
def hU:V->V->Bool
 | .gc,.gc=>true | .gc,.int _=>true | .int _,.gc=>true | .gc,.bl _=>true | .bl _,.gc=>true | .gc,.str _=>true | .str _,.gc=>true
 | .int _,.int _=>true | .bl _,.bl _=>true | .str _,.str _=>true | .IF _,.IF _=>true
 | .int _,.str _=>true | .str _,.int _=>true | .bl _,.str _=>true | .str _,.bl _=>true
 | _,_=>false
def rp:R2:=λx y H Q=>hU x y=true/\Q (.bl (decide (x=y))) H
def rr:R2:=λx y H Q=>hU x y=true/\Q (.bl (!decide (x=y))) H
def La{i j:Int}:decide (V.int i=V.int j)=(i == j):=by
 rw[Bool.eq_iff_iff];simp
def OJ{i j:Bool}:decide (V.bl i=V.bl j)=(i == j):=by
 rw[Bool.eq_iff_iff];simp
def Lb{i j:Str}:decide (V.str i=V.str j)=(i == j):=by
 rw[Bool.eq_iff_iff];simp
def Lc{i j:Array UInt8}:decide (V.IF i=V.IF j)=(i.toList == j.toList):=by
 rw[Bool.eq_iff_iff];cases i;cases j;simp
section
variable {X:Cx} {a b c:Expr} {ta tb tc:TE} {pos:Pos}
def eS{d:St}{H:Hp}{s:Shared}{Q:VK}{k e:Bool}(I:Inv X f d H s)(q:Q (.bl k) H)(g:k=e):EP X f d Q (.bool e) s:=by
 subst g;exact⟨.bl k,H,I,1,q⟩
def eV:tV X (compareOp .Eq) rp:=by
 intro e s f H x y v u Q I d a h;let⟨c,q⟩:=h
 cases x with
 | gc =>
  cases d
  cases y with
  | gc=>cases a;exact PySem.EqNone.eq_none_none (eS I q (by simp))
  | bl j=>cases a;exact PySem.EqNone.eq_none_bool (eS I q (by simp))
  | int j=>let⟨b,rfl⟩:=a;exact PySem.EqNone.eq_none_int (eS I q (by simp))
  | str j=>let⟨b,rfl⟩:=a;exact PySem.EqNone.eq_none_str (eS I q (by simp))
  | _=>exact absurd (show false=true from c) gP
 | bl i =>
  cases d
  cases y with
  | gc=>cases a;exact PySem.EqNone.eq_bool_none (eS I q (by simp))
  | bl j=>cases a;exact eq_bool (eS I q OJ)
  | str j=>let⟨b,rfl⟩:=a;exact PySem.EqMixed.eq_bool_str (eS I q (by simp))
  | _=>exact absurd (show false=true from c) gP
 | int i =>
  let⟨t,rfl⟩:=d
  cases y with
  | gc=>cases a;exact PySem.EqNone.eq_int_none (eS I q (by simp))
  | int j=>let⟨b,rfl⟩:=a;exact eq_int (eS I q La)
  | str j=>let⟨b,rfl⟩:=a;exact PySem.EqMixed.eq_int_str (eS I q (by simp))
  | _=>exact absurd (show false=true from c) gP
 | str i =>
  let⟨t,rfl⟩:=d
  cases y with
  | gc=>cases a;exact PySem.EqNone.eq_str_none (eS I q (by simp))
  | bl j=>cases a;exact PySem.EqMixed.eq_str_bool (eS I q (by simp))
  | int j=>let⟨b,rfl⟩:=a;exact PySem.EqMixed.eq_str_int (eS I q (by simp))
  | str j=>let⟨b,rfl⟩:=a;exact eq_str (eS I q Lb)
  | _=>exact absurd (show false=true from c) gP
 | IF i =>
  let⟨t,rfl⟩:=d
  cases y with
  | IF j=>let⟨b,rfl⟩:=a;exact PySem.W.eq_bytes (eS I q Lc)
  | _=>exact absurd (show false=true from c) gP
 | _=>cases y <;> exact absurd (show false=true from c) gP
def OL:tV X (compareOp .NotEq) rr:=by
 intro e s f H x y v u Q I d a h;let⟨c,q⟩:=h
 cases x with
 | gc =>
  cases d
  cases y with
  | gc=>cases a;exact PySem.EqNone.ne_none_none (eS I q (by simp))
  | bl j=>cases a;exact PySem.EqNone.ne_none_bool (eS I q (by simp))
  | int j=>let⟨b,rfl⟩:=a;exact PySem.EqNone.ne_none_int (eS I q (by simp))
  | str j=>let⟨b,rfl⟩:=a;exact PySem.EqNone.ne_none_str (eS I q (by simp))
  | _=>exact absurd (show false=true from c) gP
 | bl i =>
  cases d
  cases y with
  | gc=>cases a;exact PySem.EqNone.ne_bool_none (eS I q (by simp))
  | bl j=>cases a;exact ne_bool (eS I q (congrArg not OJ))
  | str j=>let⟨b,rfl⟩:=a;exact PySem.EqMixed.ne_bool_str (eS I q (by simp))
  | _=>exact absurd (show false=true from c) gP
 | int i =>
  let⟨t,rfl⟩:=d
  cases y with
  | gc=>cases a;exact PySem.EqNone.ne_int_none (eS I q (by simp))
  | int j=>let⟨b,rfl⟩:=a;exact ne_int (eS I q (congrArg not La))
  | str j=>let⟨b,rfl⟩:=a;exact PySem.EqMixed.ne_int_str (eS I q (by simp))
  | _=>exact absurd (show false=true from c) gP
 | str i =>
  let⟨t,rfl⟩:=d
  cases y with
  | gc=>cases a;exact PySem.EqNone.ne_str_none (eS I q (by simp))
  | bl j=>cases a;exact PySem.EqMixed.ne_str_bool (eS I q (by simp))
  | int j=>let⟨b,rfl⟩:=a;exact PySem.EqMixed.ne_str_int (eS I q (by simp))
  | str j=>let⟨b,rfl⟩:=a;exact ne_str (eS I q (congrArg not Lb))
  | _=>exact absurd (show false=true from c) gP
 | IF i =>
  let⟨t,rfl⟩:=d
  cases y with
  | IF j=>let⟨b,rfl⟩:=a;exact PySem.W.ne_bytes (eS I q (congrArg not Lc))
  | _=>exact absurd (show false=true from c) gP
 | _=>cases y <;> exact absurd (show false=true from c) gP
theorem kJ:tV X (compareOp .Lt) (VL λi j=>.bl (decide (i<j))):=SS λ_ _ _ _ _ _ _ q=>lt_int q
theorem gJ:tV X (compareOp .LtE) (VL λi j=>.bl (decide (i<=j))):=SS λ_ _ _ _ _ _ _ q=>le_int q
theorem za:tV X (compareOp .Gt) (VL λi j=>.bl (decide (j<i))):=SS λ_ _ _ _ _ _ _ q=>gt_int q
theorem VM:tV X (compareOp .GtE) (VL λi j=>.bl (decide (j<=i))):=SS λ_ _ _ _ _ _ _ q=>ge_int q
def bz(b:Expr){d:CmpOp}(h:d≠.In:=by decide)(e:d≠.NotIn:=by decide):behindInMarks d b=false:=by
 let a:(d == CmpOp.In)=false:=by cases d <;> first|rfl|exact absurd rfl h
 let c:(d == CmpOp.NotIn)=false:=by cases d <;> first|rfl|exact absurd rfl e
 cases b <;> simp[behindInMarks,a,c]
def kC{d:CmpOp}{r:R2}(e:tV X (compareOp d) r)(f:PE X a ta)(g:PE X b tb)(h:behindInMarks d b=false):PE X (.Compare a [d] [b] pos) (c' r ta tb):=by
 intro c s i H Q I j;exact wpAny_Compare1 (Xo f g I j λv u j x y k l m n q=>e c j i k x y v u Q l m n q) h
def VN(t:TE):TT:=fun a H Q=>t a H λx a=>eA x a Q
def aV{d:CmpOp}{r:R2}(g:tV X (compareOp d) r)(h:PE X a ta)(i:PE X b tb)(j:behindInMarks d b=false):PT X (.Compare a [d] [b] pos) (VN (c' r ta tb)):=by
 intro e s f H Q I k
 refine wpAny_isTrue_Compare1 (dP (h e s f H _ I k) λv k ⟨x,l,m,n,o⟩=>dP (i e k f l _ m o) λu k ⟨y,l,m,o,p⟩ =>
  dP (g e k f l x y v u _ m n o p) λc e ⟨f,q,t,w,k,z,A⟩=>?_) j
 subst z;cases w;exact wpAny_truthy_bool ⟨q,t,A⟩
def Xq(r d:R2)(ta tb tc:TE):TE:=fun a H Q=>ta a H λx b=>tb a b λy b=>r x y b λz b=>∃ k,z=.bl k/\
 (if k=true then tc a b λa c=>d y a c Q else Q (.bl false) b)
theorem qE{f g:CmpOp}{r h:R2}(m:tV X (compareOp f) r)(n:tV X (compareOp g) h)(o:PE X a ta)(p:PE X b tb)(q:PE X c tc)
  (t:lastMarks [f,g] [b,c]=false:=by with_unfolding_all rfl):PT X (.Compare a [f,g] [b,c] pos) (VN (Xq r h ta tb tc)):=by
 intro d s e H Q I v
 refine isTrue_chain (dP (o d s e H _ I v) λv w ⟨x,z,A,B,C⟩=>test_link (dP (p d w e z _ A C) λu w ⟨y,z,A,i,C⟩ =>
  dP (m d w e z x y v u _ A B i C) λv D ⟨z,j,k,F,G,J,l⟩=>?_)) t
 subst J;cases F;refine wpAny_truthy_bool ?_
 cases G with
 | false =>
  let⟨v,D,L⟩:=l;cases D;exact ite_ff ⟨j,k,L⟩
 | true =>
  refine ite_tt (test_last (dP (q d D e j _ k l) λj k ⟨l,v,w,x,z⟩=>dP (n d k e v y l u j _ w i x z) λe i d=>?_));let⟨e,D,L,M,i,N,O⟩:=d;subst N;cases M;exact wpAny_truthy_bool ⟨D,L,O⟩
def hV(K:Frag)(x:V)(H:Hp)(k:Bool):Prop :=
 match x with
 | .gc=>k=false
 | .bl b=>k=b
 | .int i=>k=(i != 0)
 | .str y=>↑y<=sizeLine/\k=((↑y:Int) != 0)
 | .IF y=>y.size<=sizeLine/\k=((y.size:Int) != 0)
 | .ref p=>(∃ a,bJ K H p a/\k=!a.isEmpty)\/(∃ a,dN K H p a/\k=!a.isEmpty)\/∃ a,H p=⇑(.dK a)/\k=!a.isEmpty
 | _=>False
def IS{d:Type}{e:List (d × V)}{f:List (d × Value)}(r:KV e f):(!f.isEmpty)=!e.isEmpty:=by
 cases r <;> rfl
def zb{d:List V}{e:WP}(r:cK d e):(!e.toArray.isEmpty)=!d.isEmpty:=by
 cases r <;> simp
def tW:(sizeLine:Nat)<2^63:=by rw[sizeLine_eq];decide
def Xr:rj X (λx H Q=>∃ k,hV X.K x H k/\Q k H):=by
 intro n s o H x v Q I d l;let⟨k,e,q⟩:=l;let l:=tW;let l:sizeLine=16777216:=sizeLine_eq
 cases x with
 | gc =>
  cases d;let a:k=false:=e;subst a;exact truthy_none ⟨H,I,q⟩
 | bl b =>
  cases d;let a:k=b:=e;subst a;exact wpAny_truthy_bool ⟨H,I,q⟩
 | int i =>
  let⟨t,rfl⟩:=d;let a:k=(i != 0):=e;subst a;exact PySem.P.truthy_int ⟨H,I,q⟩
 | str y =>
  let⟨t,rfl⟩:=d;obtain⟨c,a⟩:↑y<=sizeLine/\k=((↑y:Int) != 0):=e;subst a;exact PySem.P.truthy_str ∅ ⟨H,I.tok _,q⟩
 | IF y =>
  let⟨t,rfl⟩:=d;obtain⟨c,a⟩:y.size<=sizeLine/\k=((y.size:Int) != 0):=e;subst a;exact PySem.W.truthy_bytes ∅ ⟨H,I.tok _,q⟩
 | ref p =>
  cases d;let a:(∃ c,bJ X.K H p c/\k=!c.isEmpty)\/(∃ c,dN X.K H p c/\k=!c.isEmpty)\/∃ f,H p=⇑(.dK f)/\k=!f.isEmpty:=e;rcases a with ⟨c,g,a⟩|⟨c,g,a⟩|⟨f,g,a⟩
  ·subst a;let⟨m,r,h,i⟩:=I.list g;let j:=↑r;exact wpAny_truthy_list h.isList (by simp only[iF];lia) ⟨H,I.tok _,by rw[zb r];exact q⟩
  ·subst a;let⟨m,r,h,i⟩:=I.tuple g;let j:=↑r;exact truthy_tuple h (by simp only[iF];lia) ⟨H,I.tok _,by rw[zb r];exact q⟩
  ·subst a;obtain⟨i,c,a,r,m⟩:↑f<=sizeLine/\(p == sysModules)=false/\∃ a,KV f a/\s.heap.DictOf (eU X.prog X.w) p a:=I.hok p _ g;let j:↑f=↑a:=Paired.length r;exact wpAny_truthy_dict c m ∅ ⟨H,I.tok _,by rw[IS r];exact q⟩
 | _=>exact (show False from e).elim
theorem jG(g:PE X a ta)(h:∀ e,isTrue a X.env e=(do let v ← e;standAt a.pos;holding [v] (truthy v))) :
  PT X a (fun d H Q=>ta d H λx f=>∃ k,hV X.K x f k/\Q k f):=by
 intro b s d H Q I c;exact isTrue_plain (dP (g b s d H _ I c) λv c ⟨x,i,j,l,m⟩=>Xr b c d i x v Q j l m) (h _)
def vals1{x:V}{d:WP}(r:cK [x] d):∃ u,d=[u]/\RelV x u:=by
 cases r with
 | cons a b=>cases b;exact⟨Y,a⟩
def vals2{x y:V}{d:WP}(r:cK [x,y] d):∃ u e,d=[u,e]/\RelV x u/\RelV y e:=by
 cases r with
 | cons a b =>
  cases b with
  | cons c f=>cases f;exact⟨E,1,a,c⟩
def mD(e:X.calm=true):jB X (.builtin "max") (λd H Q=>∃ i j,d=[.int i,.int j]/\Q (.int (if j > i then j else i)) H):=by
 intro a s b H d c Q I r h;let⟨i,j,rfl,q⟩:=h;let⟨u,f,rfl,⟨t,rfl⟩,⟨g,rfl⟩⟩:=vals2 r;refine max_two_ints (I.ok.hd e) λa b k=>⟨_,H,I.kept k,?_,q⟩;by_cases a:j > i
 ·rw[if_pos a,if_pos a];exact⟨Y⟩
 ·rw[if_neg a,if_neg a];exact⟨Y⟩
def oA(e:X.calm=true):jB X (.builtin "min") (λd H Q=>∃ i j,d=[.int i,.int j]/\Q (.int (if j<i then j else i)) H):=by
 intro a s b H d c Q I r h;let⟨i,j,rfl,q⟩:=h;let⟨u,f,rfl,⟨t,rfl⟩,⟨g,rfl⟩⟩:=vals2 r;refine min_two_ints (I.ok.hd e) λa b k=>⟨_,H,I.kept k,?_,q⟩;by_cases a:j<i
 ·rw[if_pos a,if_pos a];exact⟨Y⟩
 ·rw[if_neg a,if_neg a];exact⟨Y⟩
end
end _L2
namespace _L2
open Spec Rows
structure IT(h:Heap)(x dx C:Addr)(mA:Ya):Prop where
 obj:h.get? x=⇑(instObj C dx)
 ns:h.Ns1 dx mA
 ne:dx≠x
def Mz{h:Heap}{a:Ya}(n:h.Ns1 d a):∃ b,h.get? d=⇑b/\∀ name,lookIn name b=⇑(a name):=by
 let⟨o,c,k,f,g,i,_,j⟩:=n;refine⟨o,f,λname=>?_⟩;let e:=j name;unfold nsFind findBy at e;rw[← Array.find?_toList]at e;unfold lookIn;rw[g];dsimp only;split
 ·rename_i y q;rw[q]at e;exact congrArg some e
 ·rename_i q;rw[q]at e
  let f:c.toList.any (·.refKey)=false:=by
   rw[List.any_eq_false];intro y g;let⟨z,t,j⟩:=i y (Array.mem_toList_iff.mp g);simp[DictEntry.refKey,j]
  let g:¬ c.toList.any (·.refKey)=true:=by rw[f];exact gP
  rw[if_neg g];exact congrArg some e
theorem IT.look{h:Heap}{x C:Addr}{b:Ya}(I:IT h x c C b):∃ a,InstAt h x (instObj C c) C (⇑a)/\∀ name,lookIn name a=⇑(b name) :=
 let ⟨a,d,e⟩:=Mz I.ns
 ⟨a,⟨I.obj,V,d⟩,e⟩
section
variable {prog:Program} {w:World} {A:Around} {E:ZB} {s:Shared} {K:Frag} {x dx C f:Addr} {mA:Ya} {name:Str} {v:Value}
theorem SV{a:Bool}{Q:ZB}(b:K.In s.heap)(I:IT s.heap x dx C mA)(c:plainGet K C name=true)(d:hasDictIn K C=true)
  (e:findIn K ↥C name=⇑none) (g:mA name=⇑v) (h:handedIn v=true) (i:Q v { s with toks:=s.toks+1 }) :
  wpAny (model prog w) A (getAttr ↥x name a) Q E s:=by
 let⟨j,J,f⟩:=I.look;exact PySem.W.get_value b J (plainGet_of c).1 (PySem.W.findObj_own d e rfl (by rw[f,g])) h i
theorem OM{b:Sem Bool}{Q:Value × List Value->Shared->Prop}(c:K.In s.heap)(I:IT s.heap x dx C mA)(a:plainGet K C name=true)
  (d:findIn K ↥C name=⇑(⇑↥f)) (e:isFn K ↥f=true) (g:mA name=none) (h:Q (.ref f,[↥x]) s) :
  wpAny (model prog w) A (getMethod ↥x name b) Q E s:=by
 let⟨i,J,j⟩:=I.look;exact PySem.W.method_fn c J (plainGet_of a).1 (plainGet_of a).2 d (beq_iff_eq.mp e) (by show (lookIn name i).map (·.isSome)=⇑false;rw[j,g];rfl) h
theorem SX{c:UV}{Q:Unit->Shared->Prop}(b:K.In s.heap)(I:IT s.heap x dx C mA)
  (g:findIn K ↥C "__setattr__"=⇑(⇑(.builtin "object.__setattr__"))) (h:plainOver K C=true) (i:takerIn K C name=⇑none) (j:hasDictIn K C=true)
  (k:PySem.Within mA c) (o:↑c<=sizeLine)
  (l:∀ a,IT a x dx C (λy=>if y=name then some v else mA y)->Heap.SameBut dx s.heap a->Q () { s with heap:=a,toks:=s.toks+2 }) :
  wpAny (model prog w) A (setAttr ↥x name v) Q E s:=by
 let⟨d,J,e⟩:=I.look;refine PySem.W.set_plain b J g (PySem.W.osa_open (s:={ s with toks:=s.toks+1 }) (r:=none) b J h i λd=>?_);let⟨f,d,e⟩:=PySem.W.any_some j;let f:s.heap.get? x=some ⟨↥C,⇑dx,.plain,#[]⟩:=I.obj;refine wpAny_bind (wpAny_pure (wpAny_bind (wpAny_bind (wpAny_loadPart f (wpAny_bind (PySem.W.Looks.here (s:={ s with toks:=s.toks+1 }) (PySem.W.looks_clsIn b d) ?_))))));rw[e];refine wpAny_pure (a:=⇑dx) (wpAny_bind (wpAny_pure (wpAny_bind ?_)));refine wpAny_nsSet1 (s:={ s with toks:=s.toks+1 }) I.ns λa d e=>?_;let⟨p,q,r,f,m,n⟩:=d.count (PySem.Within.cons name v k);refine wpAny_bind (wpAny_lookBehind f (by rw[m];exact pastItsLine_dict (iG n (by rw[kH];lia))) ?_);exact wpAny_pure (l _ ⟨(e.2 _ (Ne.symm I.ne)).trans I.obj,d,I.ne⟩ e)
theorem ON{d:X2}{a:WP}{b:List (Str × Value)}(c:K.In s.heap)(e:makesIn K C=true)
  (g:findIn K ↥C "v"=⇑(⇑↥f)) (h:typeIn K ↥f=⇑(.type "function"))
  (i:codeAny (model prog w) (A.under (.builtin "Q" ⟨↥C::a,b⟩)) (.call ↥f ⟨.ref (s⁻¹+1)::a,b⟩) (PySem.W.InitBack (s⁻¹+1) d)
   { s with heap:=(s.heap.push emptyDict).push (instObj C s⁻¹) }) :
  codeAny (model prog w) A (.call ↥C ⟨a,b⟩) d s:=by
 let⟨j,k,l,t,m⟩:=s;exact PySem.W.make_core (PySem.W.makes_of c e) (PySem.W.looks_findIn c g) (λself=>PySem.W.bind_fn c self h) (.inl rfl) i
end
def fk(f:Str)(v:V):List (Str × V)->List (Str × V)
 | []=>[(f,v)]
 | (g,x)::r=>if g=f then (g,v)::r else (g,x)::fk f v r
theorem xJ(f g:Str)(v:V):∀ c:List (Str × V),(fk f v c).lookup g=if g=f then some v else c.lookup g
 | []=>by
  show List.lookup g [(f,v)]=_;by_cases h:g=f
  ·let a:(g == f)=true:=beq_iff_eq.mpr h;simp only[List.lookup,a,if_pos h]
  ·let a:(g == f)=false:=beq_eq_false_iff_ne.mpr h;simp only[List.lookup,a,if_neg h]
 | (k,x)::r=>by
  let d:=xJ f g v r;rw[show fk f v ((k,x)::r)=(if k=f then (k,v)::r else (k,x)::fk f v r) from rfl];by_cases b:k=f
  ·rw[if_pos b];by_cases h:g=k
   ·let a:(g == k)=true:=beq_iff_eq.mpr h;simp only[List.lookup,a,if_pos (h.trans b)]
   ·let a:(g == k)=false:=beq_eq_false_iff_ne.mpr h;simp only[List.lookup,a,if_neg (λe:g=f=>h (e.trans b.symm))]
  ·rw[if_neg b];by_cases h:g=k
   ·let a:(g == k)=true:=beq_iff_eq.mpr h;simp only[List.lookup,a,if_neg (λe:g=f=>b (h.symm.trans e))]
   ·let a:(g == k)=false:=beq_eq_false_iff_ne.mpr h;simp only[List.lookup,a];exact d
theorem wj(f:Str)(v:V):∀ a:List (Str × V),f∈(fk f v a).map (·.1)/\∀ g,g∈a.map (·.1)->g∈(fk f v a).map (·.1)
 | []=>⟨by simp[fk],λg h=>by simp at h⟩
 | (k,x)::r=>by
  let⟨c,d⟩:=wj f v r;rw[show fk f v ((k,x)::r)=(if k=f then (k,v)::r else (k,x)::fk f v r) from rfl];by_cases b:k=f
  ·rw[if_pos b];subst b;exact⟨by simp,λg h=>by simpa using h⟩
  ·rw[if_neg b];refine⟨?_,λg h=>?_⟩
   ·rw[iu];exact j0 _ c
   ·rw[iu]at h ⊢;rcases List.mem_cons.mp h with e|e
    ·exact List.mem_cons.mpr (.inl e)
    ·exact j0 _ (d g e)
theorem xK(f:Str)(v:V):∀ a:List (Str × V),↑(fk f v a)<=↑a+1
 | []=>by simp[fk]
 | (k,x)::r=>by
  let b:=xK f v r;rw[show fk f v ((k,x)::r)=(if k=f then (k,v)::r else (k,x)::fk f v r) from rfl];by_cases b:k=f
  ·rw[if_pos b,kH,kH];lia
  ·rw[if_neg b,kH,kH];lia
def qg.some_of{v:V}{o:XB}(r:qg (⇑v) o):∃ u,o=⇑u/\RelV v u:=by
 cases o with
 | none=>exact (show False from r).elim
 | some u=>exact⟨u,1,r⟩
def qg.none_of{o:XB}(r:qg none o):o=none:=by
 cases o with
 | none=>rfl
 | some u=>exact (show False from r).elim
def MA{v:V}{u:Value}(r:RelV v u):handedIn u=true:=by
 cases v with
 | gc=>cases (show u=Value.none from r);rfl
 | bl b=>cases (show u=Value.bool b from r);rfl
 | int i=>let⟨t,e⟩:=(show ∃ t,u=Value.int i t from r);cases e;rfl
 | str x=>let⟨t,e⟩:=(show ∃ t,u=Value.str x t from r);cases e;rfl
 | IF b=>let⟨t,e⟩:=(show ∃ t,u=Value.bytes b t from r);cases e;rfl
 | VE b=>let⟨t,e⟩:=(show ∃ t,u=Value.float b t from r);cases e;rfl
 | ref a=>cases (show u=Value.ref a from r);rfl
 | ty n=>cases (show u=Value.type n from r);rfl
section
variable {P:Program} {w:World} {H H':Hp} {h h':Heap} {a C dx:Addr} {fs ZC:List (Str × V)}
def yP(c:uK P w H h)(e:H a=⇑(.ins C dx fs)):∃ b,IT h a dx C b/\(∀ f,qg (fs.lookup f) (b f))/\PySem.Within b (fs.map (·.1))/\↑fs<=1000/\H dx=⇑(.own a):=by
 let⟨d,z,g,i,b,n,r,q⟩:=(show gn P w H h a (.ins C dx fs) from c a _ e);exact⟨b,⟨i,n,g⟩,r,q,z,d⟩
end
structure Od(K:Frag)(C:Addr):Prop where
 pg:plainGet K C Str.empty=true
 hd:hasDictIn K C=true
 po:plainOver K C=true
 sa:findIn K ↥C "__setattr__"=⇑(⇑(.builtin "object.__setattr__"))
theorem Od.get{K:Frag}{C:Addr}(c:Od K C)(f:Str):plainGet K C f=true:=c.pg
def gD(K:Frag)(C:Addr)(f:Str):Prop:=findIn K ↥C f=⇑none
def gD.ry{K:Frag}{C:Addr}{f:Str}(n:gD K C f):takerIn K C f=⇑none:=by
 unfold takerIn;rw[show findIn K ↥C f=⇑none from n];rfl
structure OO(K:Frag)(C:Addr)(m:Str)(f:Addr):Prop where
 at_:findIn K ↥C m=⇑(⇑↥f)
 fn:isFn K ↥f=true
 kp:keepIn K ↥f=true
section
variable {X:Cx} {ay:List (Addr × Obj)} {σ:St} {H:Hp} {s:Shared} {a C dx:Addr} {c:List (Str × V)} {f:Str} {v:V} {A:Around} {E:ZB}
theorem zc{g:Bool}{Q:ZB}(I:Inv X ay σ H s)(h:H a=⇑(.ins C dx c))(b:Od X.K C)(n:gD X.K C f)(l:c.lookup f=⇑v)
  (i:∀ u d,Inv X ay σ H d->RelV v u->Q u d):wpAny (model X.prog X.w) A (getAttr ↥a f g) Q E s:=by
 let⟨j,O,r,_,_,_⟩:=yP I.hok h;let⟨u,k,e⟩:=qg.some_of (v:=v) (o:=j f) (by rw[← l];exact r f);exact SV I.xH O (b.get f) b.hd n k (MA e) (i u _ (I.tok _) e)
theorem zd{m:Str}{g:Addr}{b:Sem Bool}{Q:Value × List Value->Shared->Prop}(I:Inv X ay σ H s)(e:H a=⇑(.ins C dx c))(d:Od X.K C)(k:OO X.K C m g)(l:c.lookup m=none)
  (h:Q (.ref g,[↥a]) s):wpAny (model X.prog X.w) A (getMethod ↥a m b) Q E s:=by
 let⟨f,O,r,_,_,_⟩:=yP I.hok e;let i:f m=none:=qg.none_of (by rw[← l];exact r m);exact OM I.xH O (d.get m) k.at_ k.fn i h
theorem ze{y:V}{u:Value}{Q:Unit->Shared->Prop}(I:Inv X ay σ H s)(e:H a=⇑(.ins C dx c))(b:Od X.K C)(n:gD X.K C f)(w:↑c<1000)(k:RelV y u)
  (l:∀ h,Inv X ay σ (aO H a (.ins C dx (fk f y c))) h->Q () h):wpAny (model X.prog X.w) A (setAttr ↥a f u) Q E s:=by
 let⟨i,O,r,j,_,g⟩:=yP I.hok e;let d:↑(c.map (·.1))<=sizeLine:=by rw[b8,sizeLine_eq];lia
 refine SX I.xH O b.sa b.po n.ry b.hd j d λm d p=>l _ ?_;have t:∃ o,m.get? dx=⇑o:=let ⟨o,E,m,_⟩:=d.ns;⟨o,m⟩;refine I.write (x:=a) (e:=dx) (by rw[e];exact True.intro) (.inr g) (λm q o z=>(p.2 m o).trans z) t ?_;refine⟨by rw[aN O.ne];exact g,?_,O.ne,d.obj,_,d.ns,λg=>?_,λg d=>?_⟩
 ·have:=xK f y c;lia
 ·show qg ((fk f y c).lookup g) (if g=f then some u else i g);rw[xJ];by_cases q:g=f
  ·rw[if_pos q,if_pos q];exact k
  ·rw[if_neg q,if_neg q];exact r g
 ·by_cases q:g=f
  ·rw[q];exact (wj f y c).1
  ·refine (wj f y c).2 g (j g λz=>d ?_);show (if g=f then some u else i g)=none;rw[if_neg q];exact z
theorem Inv.made(I:Inv X ay σ H s):Inv X ay σ (aO (aO H s⁻¹ (.own (s⁻¹+1))) (s⁻¹+1) (.ins C s⁻¹ []))
  { s with heap:=(s.heap.push emptyDict).push (instObj C s⁻¹) }:=by
 let a:(s.heap.push emptyDict).get? s⁻¹=⇑emptyDict:=Heap.get?_push_size s.heap rfl
 let b:((s.heap.push emptyDict).push (instObj C s⁻¹)).get? (s⁻¹+1)=⇑(instObj C s⁻¹):=by
  have:=Heap.get?_push_size (s.heap.push emptyDict) (o:=instObj C s⁻¹) rfl;rwa [Heap.size_push]at this
 let c:(s.heap.push emptyDict).Ns s⁻¹ (λ_=>none):=⟨emptyDict,#[],_,a,1,(λe d=>absurd d (by simp)),λ_=>rfl⟩;let d:=I.laid (a:=s⁻¹) (o:=.own (s⁻¹+1)) (h':=s.heap.push emptyDict) (t':=s.toks) (λe u q=>Heap.get?_push_of_some _ q) (fF _) ⟨_,a⟩;refine d.laid (a:=s⁻¹+1) (o:=.ins C s⁻¹ []) (t':=s.toks) (λe u q=>Heap.get?_push_of_some _ q) (Nat.le_of_eq (Heap.size_push _ _)) ?_;let a:s⁻¹≠s⁻¹+1:=i9 (Nat.lt_succ_self _);refine⟨by rw[aN a,af],mR _,a,b,λ_=>none,(Heap.Ns1.of_empty c).at λo q=>Heap.get?_push_of_some _ q,λ_=>True.intro,λy f=>absurd rfl f⟩
theorem SY{d:Program}{w:World}{b:Env}{e:Expr}{f:Str}{s:Shared}{Q:ZB}(g:attributeBase e f b (eval e b)=eval e b)
  (h:wpAny (model d w) A (eval e b) (λo i=>wpAny (model d w) A (getAttr o f true) Q E i) E s):wpAny (model d w) A (eval (.Attribute e f j) b) Q E s :=
 Attribute_any_ h (by rw[arm_eval_Attribute,g])
end
inductive hY(K:Frag)(f:Str)(x:V)(H:Hp)(Q:VK):Prop
 | mk (a C c:Addr) (b:List (Str × V)) (v:V) (_:x=↥a) (_:H a=⇑(.ins C c b)) (_:Od K C) (_:gD K C f) (_:b.lookup f=⇑v) (_:Q v H):hY K f x H Q
def hZ(K:Frag)(a:TE)(f:Str):TE:=fun b H Q=>a b H λx b=>hY K f x b Q
def rz(K:Frag)(g h:TE)(f:Str):TS:=λD a H=>h a H λy b=>g a b λx d=>∃ b C e c,x=↥b/\d b=⇑(.ins C e c)/\Od K C/\gD K C f/\↑c<1000/\
 D.nx a (aO d b (.ins C e (fk f y c)))
def h8(a:Cx)(d:Operator)(e:V->V->Hp->VK->Prop):Prop :=
 ∀ (b:List (Addr × Obj)) (s:Shared) (c:St) (H:Hp) (x y:V) (u v:Value) (Q:VK),Inv a b c H s->RelV x u->RelV y v->e x y H Q->wpAny (model a.prog a.w) a.A (inplaceOp d u v) (EP a b c Q) a.xe s
def S0(K:Frag)(g h:TE)(i:V->V->Hp->VK->Prop)(f:Str):TS:=λD b H=>g b H λx c=>∃ a C e d v,x=↥a/\c a=⇑(.ins C e d)/\Od K C/\gD K C f/\d.lookup f=⇑v/\
 h b c λy c=>i v y c λz d=>∃ e c,d a=⇑(.ins C e c)/\c.length<1000/\D.nx b (aO d a (.ins C e (fk f z c)))
section
variable {X:Cx} {o e value:Expr} {f:Str} {pos ja MB:Pos} {ta tv:TE}
def cG(a:PE X e ta)(b:attributeBase e f X.env (eval e X.env)=eval e X.env):PE X (.Attribute e f pos) (hZ X.K ta f):=by
 intro c s d H Q I h;refine SY b (dP (a c s d H _ I h) λu d c=>?_);let⟨x,g,i,j,k,C,d,h,v,l,m,n,o,p,q⟩:=c;subst l;obtain rfl:u=Value.ref k:=j;exact zc i m n o p λh i c d=>⟨v,g,c,d,q⟩
def iJ(c:PE X o ta)(d:PE X value tv)(g:swapsWith value (⇑(.Attribute o f ja)) pos.line X.env=pure false):PS X (.Assign [.Attribute o f ja] value pos) (rz X.K ta tv f):=by
 intro b s a H D I h;refine plainObj_wpAny_Assign_Attribute (dP (d b s a H _ I h) λi e h=>?_) g;let⟨y,i,j,k,q⟩:=h;refine dP (c b e a i _ j q) λl e b=>?_;let⟨e,h,m,n,p,C,i,j,r,t,u,v,w,x⟩:=b;subst r;obtain rfl:l=Value.ref p:=n;exact ze m t u v w k λe b=>⟨a,_,b,x⟩
def wm{c:Operator}{d:V->V->Hp->VK->Prop}(g:PE X o ta)(h:PE X value tv)(i:h8 X c d):PS X (.AugAssign (.Attribute o f MB) c value pos) (S0 X.K ta tv d f):=by
 intro b s a H D I j;refine wpAny_AugAssign_AttributeAny (dP (g b s a H _ I j) λk x j=>?_);let⟨x,l,m,p,q,C,y,z,v,r,t,e,n,u,w⟩:=j;subst r;obtain rfl:k=Value.ref q:=p;refine zc m t e n u λu j k m=>dP (h b j a l _ k w) λj k ⟨y,l,p,q,r⟩=>dP (i b k a l v y u j _ p m q r) λj k b=>?_;let⟨z,q,j,k,r,t,l,m,p⟩:=b;exact ze j l e n m k λe b=>⟨a,_,b,p⟩
end
section
variable {X:Cx} {ay:List (Addr × Obj)} {σ:St} {H:Hp} {s:Shared} {A:Around} {E:ZB} {Q:ZB} {c:Value} {b:Bool}
inductive kK(K:Frag)(H:Hp):V->Value->Prop where
 | gc:kK K H .gc (.type "NoneType")
 | bl (x:Bool):kK K H (.bl x) (.type "bool")
 | int (i:Int):kK K H (.int i) (.type "int")
 | str (x:Str):kK K H (.str x) (.type "str")
 | VE (x:UInt64):kK K H (.VE x) (.type "float")
 | lst {a:Addr} {d:List V} (e:H a=⇑(.lst d)):kK K H ↥a (.type "h")
 | KS {a:Addr} {o:Obj} {d:List V} (e:H a=⇑(.KS o (.lst d))):kK K H ↥a (.type "h")
 | tup {a:Addr} {d:List V} (e:H a=⇑(.tup d)):kK K H ↥a (.type "s")
 | dK {a:Addr} {f:List (eG × V)} (e:H a=⇑(.dK f)):kK K H ↥a (.type "4")
 | dT {a:Addr} {f:List (List eG × V)} (e:H a=⇑(.dT f)):kK K H ↥a (.type "4")
 | ins {a C g:Addr} {h:List (Str × V)} (e:H a=⇑(.ins C g h)) (j:Od K C) (k:findIn K ↥C "__class__"=⇑(⇑(.builtin "object.__class__")))
   (hn:PySem.W.specialIn K (.builtin "object.__class__") "__get__"=⇑(⇑(.builtin "getset_descriptor.__get__"))) (l:PySem.W.takesIn K (.builtin "object.__class__")=⇑true)
   (m:mroIn K C (.type "object")=⇑true):kK K H ↥a ↥C
theorem MC{x:V}{u t:Value}(I:Inv X ay σ H s)(d:RelV x u)(l:kK X.K H x t)(e:kitOne X.K t c=⇑b)(h:∀ m,Q (.bool b) { s with toks:=m }) :
  wpAny (model X.prog X.w) A (call (.builtin "isinstance") [u,c]) Q E s:=by
 cases l with
 | gc=>cases (show u=Value.none from d);exact kia_one PySem.W.kitx_none I.xH True.intro e (λz=>nomatch z) h
 | bl y=>cases (show u=Value.bool y from d);exact kia_one PySem.W.kitx_bool I.xH True.intro e (λz=>nomatch z) h
 | int i=>let⟨t,q⟩:=(show ∃ t,u=Value.int i t from d);cases q;exact kia_one PySem.W.kitx_int I.xH True.intro e (λz=>nomatch z) h
 | str y=>let⟨t,q⟩:=(show ∃ t,u=Value.str y t from d);cases q;exact kia_one PySem.W.kitx_str I.xH True.intro e (λz=>nomatch z) h
 | VE y=>let⟨t,q⟩:=(show ∃ t,u=Value.float y t from d);cases q;exact kia_one PySem.W.kitx_float I.xH True.intro e (λz=>nomatch z) h
 | @lst a i f =>
  cases (show u=Value.ref a from d);let⟨_,_,n,_,g⟩:=(show gn X.prog X.w H s.heap a (.lst i) from I.hok a _ f);exact kia_one kitx_list I.xH ⟨_,g,1⟩ e (λz=>nomatch z) h
 | @KS a j i f =>
  cases (show u=Value.ref a from d);let⟨_,_,_,n,_,g⟩:=(show gn X.prog X.w H s.heap a (.KS j (.lst i)) from I.hok a _ f);exact kia_one kitx_list I.xH ⟨_,g,1⟩ e (λz=>nomatch z) h
 | @tup a i f =>
  cases (show u=Value.ref a from d);let⟨_,_,_,p⟩:=(show gn X.prog X.w H s.heap a (.tup i) from I.hok a _ f);let⟨o,g,j,_⟩:=p;exact kia_one PySem.W.kitx_tuple I.xH ⟨o,g,j⟩ e (λz=>nomatch z) h
 | @dK a k f =>
  cases (show u=Value.ref a from d);let⟨_,_,i,_,p⟩:=(show gn X.prog X.w H s.heap a (.dK k) from I.hok a _ f);let⟨o,n,q,g,j,_⟩:=p;exact kia_one kitx_dict I.xH ⟨o,g,j.1⟩ e (λz=>nomatch z) h
 | @dT a k f =>
  cases (show u=Value.ref a from d);let⟨_,_,i,_,o,n,q,g,j,_⟩:=(show gn X.prog X.w H s.heap a (.dT k) from I.hok a _ f);exact kia_one kitx_dict I.xH ⟨o,g,j.1⟩ e (λz=>nomatch z) h
 | @ins a C n o f cl g i j k =>
  cases (show u=Value.ref a from d);let⟨n,O,_⟩:=yP I.hok f;let⟨f,J,_⟩:=O.look;exact kia_one (PySem.W.kitx_own (cl.get _) cl.hd g i j k) I.xH J e (λz=>nomatch z) h
end
end _L2
namespace _L2
open Spec Rows
structure jr(k:Nat)(A:Around):Prop where
 hd:A.handled=none
 dp:A.depth+3*k+5<recursionLimit
 un:A.units+16*k+200<cLine
theorem jr.mono{j k:Nat}{A:Around}(r:jr k A)(h:j<=k):jr j A:=⟨r.hd,by have:=r.dp;lia,by have:=r.un;lia⟩
theorem jr.deeper{k:Nat}{A:Around}(r:jr (k+1) A)(a:Env):jr k (A.deeper a) :=
 ⟨r.hd,by have:=r.dp;show A.depth+1+3*k+5<_;lia,by have:=r.un;show A.units+3+16*k+200<_;lia⟩
def IU{A:Around}{C:Addr}{a:WP}{b:List (Str × Value)}:(A.under (.builtin "Q" ⟨↥C::a,b⟩)).depth=A.depth+1:=by
 first|rfl|simp[Around.under,Code.weight,Code.isCreation,Code.isGuard,Code.isCaller,Code.frames,Code.isFrame,guardIds]
def IV{A:Around}{C:Addr}{a:WP}{b:List (Str × Value)}:(A.under (.builtin "Q" ⟨↥C::a,b⟩)).units=A.units+1:=by
 first|rfl|simp[Around.under,Code.cUnits,Code.frames,Code.isFrame]
theorem jr.make{k:Nat}{A:Around}(r:jr (k+1) A)(C:Addr)(a:WP)(b:List (Str × Value)):jr k (A.under (.builtin "Q" ⟨↥C::a,b⟩)) :=
 ⟨r.hd,by have:=r.dp;rw[IU];lia,by have:=r.un;rw[IV];lia⟩
def jr.depth{k:Nat}{A:Around}(r:jr k A):A.depth<recursionLimit:=by have:=r.dp;lia
def jr.units{k:Nat}{A:Around}(r:jr k A):A.units+64<cLine:=by have:=r.un;lia
def zf:TA:=λ_ H Q=>Q [] H
def OP(b:TE)(c:TA):TA:=fun a H Q=>b a H λx d=>c a d λa d=>Q (x::a) d
section
variable {X:Cx} {e:Expr} {es:List Expr} {te:TE} {t:TA} {pos:Pos}
theorem ah:PA X [] zf:=λ_ _ _ _ H Q I h=>Calls.spliced_nil ⟨[],H,I,.nil,h⟩
def aa(c:PE X e te)(d:PA X es t)(f:starEach (e::es) X.env=(false,eval e X.env)::starEach es X.env:=by rfl):PA X (e::es) (OP te t):=by
 intro pos a s b H Q I h;rw[f];show wpAny _ _ (spliced ((false,eval e X.env)::backTo pos (starEach es X.env))) _ _ s;refine Calls.spliced_cons (dP (c a s b H _ I h) λu g h=>?_);let⟨x,i,j,k,l⟩:=h;exact dP (d pos a g b i _ j l) λj l ⟨a,b,g,h,i⟩=>⟨x::a,b,g,.cons k h,i⟩
def rA(t:TA):TE:=fun a H Q=>t a H λa b=>↑a<=sizeLine/\∀ p,b p=none->Q ↥p (aO b p (.tup a))
def MD(t:TA):TE:=fun a H Q=>t a H λa b=>↑a<=sizeLine/\∀ p,b p=none->Q ↥p (aO b p (.lst a))
def c9{d}(h:PA X es t):PE X (.Tuple es d pos) (rA t):=by
 intro a s b H Q I c;refine wpAny_Tuple_spliced (dP (h pos a s b H _ I c) λf a ⟨g,b,c,r,z,q⟩=>⟨by rw[← ↑r];exact z,?_⟩);let i:b a⁻¹=none:=c.hok.fresh (fF _);refine⟨↥a⁻¹,aO b a⁻¹ (.tup g),c.laid (t':=a.toks) (λb u e=>Heap.get?_push_of_some _ e) (fF _) ?_,1,q _ i⟩;exact⟨z,f,r,⟨_,Heap.get?_push_size _ rfl,1,Y⟩⟩
def bM(h:PA X es t):PE X (.List es pos) (MD t):=by
 intro a s b H Q I c;refine wpAny_List_spliced (dP (h pos a s b H _ I c) λd a ⟨f,b,c,r,z,q⟩=>⟨by rw[← ↑r];exact z,?_⟩);let g:b a⁻¹=none:=c.hok.fresh (fF _);refine⟨↥a⁻¹,aO b a⁻¹ (.lst f),c.laid (t':=a.toks) (λb u e=>Heap.get?_push_of_some _ e) (fF _) ?_,1,q _ g⟩;exact⟨z,d,0,r,Heap.get?_push_size _ rfl⟩
end
abbrev Sp:=List V->Hp->VK->XK->Prop
abbrev ME:=List Env->Hp->Shared->XK->Value->Shared->Prop
structure IW(P:Program)(w:World)(K:Frag)(mg:Ya)(zt:Heap)(A:Around)(zn:List Env)(s:Shared)(H:Hp):Prop where
 frames:A.frames=⇑zn
 mod:Mod K mg zt
 bs:∀ b o,zt.get? b=⇑o->s.heap.get? b=⇑o/\H b=none
 VG:zt.objs.size<=s⁻¹
 yr:s.heap.FunFrames zt zn
 Xc:∀ b∈OA zn,H b=none
 hok:uK P w H s.heap
 bare:AllBare s.gens
def CE(c:List Env)(P:Program)(w:World)(H:Hp)(s:Shared)(Q:VK)(u:Value)(a:Shared):Prop :=
 ∃ v b,a.os=s.os/\AllBare a.gens/\Un (OA c) [] H b s.heap a.heap/\uK P w b a.heap/\RelV v u/\Q v b
def CR(c:ME)(a:List Env)(P:Program)(w:World)(H:Hp)(s:Shared)(Q:VK)(E:XK)(r:Result)(b:Shared):Prop :=
 match r with
 | .ok (.ret u)=>CE a P w H s Q u b
 | .ok _=>False
 | .error e=>c a H s E e b
structure aZ(P:Program)(w:World)(K:Frag)(mg:Ya)(zt:Heap)(CX:ME)(k:Nat)(f:Addr)(fd:FuncData)(ps:UV)(sp:Sp):Prop where
 len:∀ vs H Q E,sp vs H Q E->↑vs=↑ps
 run:∀ (A:Around) (zn:List Env) (s:Shared) (H:Hp) (args:Args) (us:WP) (vs:List V) (Q:VK) (E:XK),jr k A->IW P w K mg zt A zn s H->BindsTo s fd args (ps.zip us)->cK vs us->sp vs H Q E->
  codeAny (model P w) A (.call ↥f args) (CR CX zn P w H s Q E) s
theorem IW.make{P:Program}{w:World}{K:Frag}{a:Ya}{b:Heap}{A:Around}{c:List Env}{s:Shared}{H:Hp}(e:IW P w K a b A c s H)(C:Addr)(d:WP)(f:List (Str × Value)) :
  IW P w K a b (A.under (.builtin "Q" ⟨↥C::d,f⟩)) c s H:=⟨by first|exact e.frames|(simpa [Around.under,Code.envs,Code.isFrame,pushEnvs] using e.frames),e.mod,e.bs,e.VG,e.yr,e.Xc,e.hok,e.bare⟩
section
variable {X:Cx} {ay:List (Addr × Obj)} {σ:St} {H:Hp} {s s':Shared}
theorem Inv.h9(I:Inv X ay σ H s):IW X.prog X.w X.K X.mg X.zt X.A X.stack s H :=
 ⟨I.ok.frames,I.ok.mod,I.bs,iG I.ok.VG I.sz,I.stack,I.KU,I.hok,I.bare⟩
def Inv.after{Q:VK}{u:Value}(I:Inv X ay σ H s)(h:CE X.stack X.prog X.w H s Q u s'):EP X ay σ Q u s':=by
 let⟨v,a,os,bare,un,hok,r,q⟩:=h;let⟨b,g,d,t,c⟩:=s';obtain rfl:c=s.os:=os;exact⟨v,a,I.call (h':=b) (h:=g) (p:=d) (l:=t) (f:=[]) un hok bare (λb z=>absurd z (by simp)),r,q⟩
end
def Ld(a:Sp)(b:List V)(E:XK)(t:TA):TE:=fun c H Q=>t c H λc d=>a (c++b) d Q E
inductive Xs(C:Addr)(m:Str)(x:V)(H:Hp)(N:Prop):Prop
 | mk (a c:Addr) (b:List (Str × V)) (_:x=↥a) (_:H a=⇑(.ins C c b)) (_:b.lookup m=none) (_:N):Xs C m x H N
def Lf(C:Addr)(m:Str)(c:Sp)(d:List V)(E:XK)(e:TE)(t:TA):TE:=fun a H Q=>e a H λx b=>Xs C m x b (t a b λa b=>c (x::(a++d)) b Q E)
def rB(C:Addr)(c:Sp)(d:List V)(E:XK)(t:TA):TE:=fun a H Q=>t a H λe b=>∀ x a,b x=none->b a=none->a≠x->
 c (.ref x::(e++d)) (aO (aO b a (.own x)) x (.ins C a [])) (λv a=>v=.gc/\Q ↥x a) E
def Binds(K:Frag)(d:FuncData)(b:UV)(c:WP):Prop :=
 ∀ (s:Shared) (a:WP),K.In s.heap->↑(a++c)=↑b->BindsTo s d ⟨a,[]⟩ (b.zip (a++c))
theorem Binds.all{K:Frag}{b:UV}(h:∀ a:List Value,↑a=↑b->bindArgs d ⟨a,[]⟩=pure (b.zip a)):Binds K d b []:=λs a _ c=>by
 rw[ir]at c ⊢;exact .of_eq (h a c)
def nV(c:ME)(a:Cx)(E:XK):Prop:=∀ (d:List (Addr × Obj)) (f:St) (H:Hp) (s:Shared) (e:Value) (b:Shared),Inv a d f H s->c a.stack H s E e b->a.xe e b
section
variable {X:Cx} {CX:ME} {k:Nat} {f C:Addr} {i:FuncData} {ps:UV} {sp:Sp} {g:List V} {d:WP} {E:XK} {x m:Str} {p c j7:Pos} {e o:Expr} {es:List Expr} {ta:TE} {t:TA}
theorem DF{j:St}{H:Hp}{s:Shared}{Q:VK}{a:WP}{h:List V}(l:aZ X.prog X.w X.K X.mg X.zt CX k f i ps sp)(v:jr k X.A)(w:Binds X.K i ps d)(y:cK g d)(z:nV CX X E)
  (I:Inv X n j H s) (r:cK h a) (q:sp (h++g) H Q E):wpAny (model X.prog X.w) X.A (call ↥f a) (EP X n j Q) X.xe s:=by
 let c:cK (h++g) (a++d):=r.append y;let m:↑(a++d)=↑ps:=by rw[← ↑c];exact l.len _ _ _ _ q
 refine wpAny_call (codeAny_mono (l.run X.A X.stack s H ⟨a,[]⟩ (a++d) (h++g) Q E v I.h9 (w s a I.xH m) c q) λr o b=>?_)
 cases r with
 | error e=>exact z n j H s e o I b
 | ok fl =>
  cases fl with
  | ret u=>exact I.after b
  | next=>exact False.elim b
  | brk=>exact False.elim b
  | cont=>exact False.elim b
theorem Lg(b:aZ X.prog X.w X.K X.mg X.zt CX k f i ps sp)(h:jr k X.A)(j:Gl X x)(l:X.mg x=⇑↥f)(n:keepIn X.K ↥f=true)(q:Binds X.K i ps d)(r:cK g d)(u:nV CX X E)
  (v:PA X (e::es) t) (w:(x == ("u":Str))=false:=by decide) (y:starEach (e::es) X.env=(false,eval e X.env)::starEach es X.env:=by rfl) (z:(backTo c (starEach es X.env)).any (·.1)=false:=by rfl) :
  PE X (.Call (.Name x p) (e::es) [] c) (Ld sp g E t):=by
 intro a s m H Q I o;refine wpAny_Call_Name_kw (yO I j l ?_ w);refine callWith_K (h₀:=X.zt) I.ok.mod.eu n (dP (v c a s m H _ I o) λA B ⟨C,D,a,m,o⟩=>⟨a.xH,?_⟩) y z;exact DF b h q r u a m o
theorem OQ(a:aZ X.prog X.w X.K X.mg X.zt CX k f i ps sp)(b:jr k X.A)(h:Gl X x)(j:X.mg x=⇑↥f)(l:keepIn X.K ↥f=true)(n:Binds X.K i ps d)(q:cK g d)(r:nV CX X E)
  (u:(x == ("u":Str))=false:=by decide):PE X (.Call (.Name x p) [] [] c) (Ld sp g E zf):=by
 intro m s o H Q I e;refine wpAny_Call_Name_kw (yO I h j ?_ u);exact callWith_K0 I.xH l (DF (a:=[]) a b n q r I .nil e)
theorem S9{b:Sem Bool}(q:PE X o ta)(r:Od X.K C)(h:OO X.K C m f)(u:aZ X.prog X.w X.K X.mg X.zt CX k f i ps sp)(v:jr k X.A)(w:Binds X.K i ps d)(y:cK g d)(z:nV CX X E)(A:PA X (e::es) t)
  (B:starEach (e::es) X.env=(false,eval e X.env)::starEach es X.env:=by rfl) (D:(backTo c (starEach es X.env)).any (·.1)=false:=by rfl)
  (G:eval (.Call (.Attribute o m j7) (e::es) [] c) X.env=(do
   let j ← eval o X.env
   standAt j7.atName
   let (f,first) ← holding [j] (getMethod j m b)
   callWith c f first (backTo c (starEach (e::es) X.env)) (backToKw c (keywordEach [] X.env))):=by rfl) :
  PE X (.Call (.Attribute o m j7) (e::es) [] c) (Lf C m sp g E ta t):=by
 intro l s n H Q I F;refine methodCall_KW (pl:=b) (dP (q l s n H _ I F) λJ L ⟨x,M,p,N,a,F,H,O,R,S,T⟩=>?_) G;subst O;obtain rfl:J=Value.ref a:=N;refine zd p R r h S ?_
 refine callWith_K (first:=[↥a]) (h₀:=X.zt) I.ok.mod.eu h.kp (dP (A c l L n M _ p T) λn F ⟨p,H,l,U,W⟩=>⟨l.xH,?_⟩) B D
 exact DF (a:=↥a::n) (h:=↥a::p) u v w y z l (.cons rfl U) W
theorem OR{h:Sem Bool}(n:PE X o ta)(q:Od X.K C)(j:OO X.K C m f)(r:aZ X.prog X.w X.K X.mg X.zt CX k f i ps sp)(u:jr k X.A)(v:Binds X.K i ps d)(w:cK g d)(y:nV CX X E)
  (z:eval (.Call (.Attribute o m j7) [] [] c) X.env=(do
   let l ← eval o X.env
   standAt j7.atName
   let (f,first) ← holding [l] (getMethod l m h)
   callWith c f first (backTo c (starEach [] X.env)) (backToKw c (keywordEach [] X.env))):=by rfl) :
  PE X (.Call (.Attribute o m j7) [] [] c) (Lf C m sp g E ta zf):=by
 intro e s p H Q I t;refine methodCall_KW (pl:=h) (dP (n e s p H _ I t) λA e ⟨x,p,b,B,a,t,H,D,F,G,J⟩=>?_) z;subst D;obtain rfl:A=Value.ref a:=B;refine zd b F q j G ?_
 exact callWith_K0 (first:=[↥a]) b.xH j.kp (DF (a:=[↥a]) (h:=[↥a]) r u v w y b (.cons rfl .nil) J)
structure Mk(K:Frag)(C f:Addr):Prop where
 makes:makesIn K C=true
 init:findIn K ↥C "v"=⇑(⇑↥f)
 fn:isFn K ↥f=true
 kp:keepIn K ↥C=true
theorem OS{j:St}{H:Hp}{s:Shared}{Q:VK}{a:WP}{l:List V}(M:Mk X.K C f)(n:aZ X.prog X.w X.K X.mg X.zt CX k f i ps sp)(w:jr (k+1) X.A)(y:Binds X.K i ps d)(z:cK g d)
  (A:nV CX X E) (I:Inv X q j H s) (r:cK l a)
  (B:∀ x h,H x=none->H h=none->h≠x->sp (.ref x::(l++g)) (aO (aO H h (.own x)) x (.ins C h [])) (λv D=>v=.gc/\Q ↥x D) E) :
  wpAny (model X.prog X.w) X.A (call ↥C a) (EP X q j Q) X.xe s:=by
 let m:=B (s⁻¹+1) s⁻¹ (I.hok.fresh (Nat.le_succ _)) (I.hok.fresh (fF _)) (i9 (Nat.lt_succ_self _));let c:=Inv.made (C:=C) I;let o:cK (V.ref (s⁻¹+1)::(l++g)) (Value.ref (s⁻¹+1)::(a++d)):=.cons rfl (r.append z)
 let p:↑(Value.ref (s⁻¹+1)::a++d)=↑ps:=by
  let e:=↑o;rw[n.len _ _ _ _ m]at e;exact e.symm
 refine wpAny_call (ON (f:=f) I.xH M.makes M.init (beq_iff_eq.mp M.fn) (codeAny_mono (n.run _ X.stack _ _ ⟨Value.ref (s⁻¹+1)::a,[]⟩ (Value.ref (s⁻¹+1)::(a++d)) _ _ E (w.make C a []) (c.h9.make C a []) (y _ (Value.ref (s⁻¹+1)::a) c.xH p) o m) λr t b=>?_))
 cases r with
 | error e=>exact A q j _ _ e t c b
 | ok fl =>
  cases fl with
  | ret u =>
   let⟨v,F,G,J,L,N⟩:=c.after b;subst L;exact⟨J,⟨V.ref (s⁻¹+1),F,G,1,N⟩⟩
  | next=>exact False.elim b
  | brk=>exact False.elim b
  | cont=>exact False.elim b
theorem oB(M:Mk X.K C f)(a:aZ X.prog X.w X.K X.mg X.zt CX k f i ps sp)(b:jr (k+1) X.A)(h:Gl X x)(j:X.mg x=⇑↥C)(l:Binds X.K i ps d)(n:cK g d)(q:nV CX X E)
  (r:(x == ("u":Str))=false:=by decide):PE X (.Call (.Name x p) [] [] c) (rB C sp g E zf):=by
 intro m s o H Q I e;refine wpAny_Call_Name_kw (yO I h j ?_ r);exact callWith_K0 I.xH M.kp (OS (a:=[]) M a b l n q I .nil e)
end
structure rC(N P:UV)(sc:Scope):Prop where
 kind:sc.kind=.function
 co:sc.isCoroutine=false
 gen:sc.isGenerator=false
 nd:N.Nodup
 pre:N.take ↑P=P
 par:∀ x∈P,sc.names.lookup x=⇑.local\/sc.names.lookup x=⇑.cell
 Xv:∀ y∈sc.names,y.2≠.free
theorem Cf{b:Str->Option NameKind}{x:Str}:∀ {a:List (Str × Value)} {m:Ya},(∀ v,(x,v)∉a)->bindL b a m x=m x
 | [],_,_=>rfl
 | (n,v)::r,m,h=>by
  unfold bindL;rw[Cf λw c=>h w (j0 _ c)];split
  ·have:x≠n:=by rintro rfl;exact h v qx
   simp[this]
  ·rfl
theorem Cg{b:Str->Option NameKind}{x:Str}:∀ {a:List (Str × Value)} {m:Ya},(∀ v,(x,v)∉a)->bindC b a m x=m x
 | [],_,_=>rfl
 | (n,v)::r,m,h=>by
  unfold bindC;rw[Cg λw c=>h w (j0 _ c)];split
  ·rfl
  ·have:x≠n:=by rintro rfl;exact h v qx
   simp[this]
theorem Ci{b:Str->Option NameKind}{x:Str}{v:Value}:∀ {P:UV} {a:WP} {i:Nat} {m:Ya},P.Nodup->P[i]?=⇑x->a[i]?=⇑v->b x=⇑.local->
  bindL b (P.zip a) m x=⇑v
 | [],_,_,_,_,h,_,_=>by simp at h
 | _::_,[],_,_,_,_,h,_=>by simp at h
 | p::P,w::a,0,m,nd,c,d,e=>by
  simp at c d;subst c;subst d;show bindL b ((p,w)::P.zip a) m p=_;unfold bindL;rw[Cf λv f=>(List.nodup_cons.mp nd).1 (List.of_mem_zip f).1,if_pos e];simp
 | p::P,w::a,i+1,m,nd,c,d,e=>by
  show bindL b ((p,w)::P.zip a) m x=_;unfold bindL;exact Ci (i:=i) (List.nodup_cons.mp nd).2 (by simpa using c) (by simpa using d) e
theorem Cj{b:Str->Option NameKind}{x:Str}{v:Value}:∀ {P:UV} {a:WP} {i:Nat} {m:Ya},P.Nodup->P[i]?=⇑x->a[i]?=⇑v->b x≠some .local->
  bindC b (P.zip a) m x=⇑v
 | [],_,_,_,_,h,_,_=>by simp at h
 | _::_,[],_,_,_,_,h,_=>by simp at h
 | p::P,w::a,0,m,nd,c,d,e=>by
  simp at c d;subst c;subst d;show bindC b ((p,w)::P.zip a) m p=_;unfold bindC;rw[Cg λv f=>(List.nodup_cons.mp nd).1 (List.of_mem_zip f).1,if_neg e];simp
 | p::P,w::a,i+1,m,nd,c,d,e=>by
  show bindC b ((p,w)::P.zip a) m x=_;unfold bindC;exact Cj (i:=i) (List.nodup_cons.mp nd).2 (by simpa using c) (by simpa using d) e
def start(N:UV)(a:List V):St:=a.map some++List.replicate (↑N-↑a) none
def DG(e:ME)(P:Program)(w:World)(K:Frag)(mg:Ya)(zt:Heap)(N:UV)(a:Str)(b:Scope)(f:Addr)(c:Value)(A:Around)(zn:List Env)(s:Shared)(H:Hp)(E:XK):Cx where
 prog:=P
 w:=w
 K:=K
 mg:=mg
 zt:=zt
 A:=A.deeper (envOfC a b s⁻¹ f c)
 N:=N
 s₀:=s
 H₀:=H
 env:=envOfC a b s⁻¹ f c
 zn:=zn
 stack:=envOfC a b s⁻¹ f c::zn
 ex:=[]
 calm:=true
 fn:=λ_=>true
 pn:=[]
 xe:=λg h=>wpAny (model P w) (A.deeper (envOfC a b s⁻¹ f c)) (leaving (envOfC a b s⁻¹ f c) g) (λ_ d=>e zn H s E g d) (λg d=>e zn H s E g d) h
theorem aP{a:ME}{P:Program}{w:World}{K:Frag}{b:Ya}{c:Heap}{N:UV}{d:Str}{e:Scope}{f:Addr}{g:Value}{A:Around}{h:List Env}{s:Shared}{H:Hp}{E:XK}:(DG a P w K b c N d e f g A h s H E).K=K:=rfl
theorem aG{a:ME}{P:Program}{w:World}{K:Frag}{b:Ya}{c:Heap}{N:UV}{d:Str}{e:Scope}{f:Addr}{g:Value}{A:Around}{h:List Env}{s:Shared}{H:Hp}{E:XK}:(DG a P w K b c N d e f g A h s H E).K0.K=K:=rfl
def FI{a:Scope}{n:Nat}{x:Str}(h:a.names.lookup x=⇑.cell):∃ c,(cellsFrom n a.names []).lookup x=⇑c:=by
 let q:=cellsFrom_some a.names n [] (.inl h);exact Option.isSome_iff_exists.mp q
theorem MG{G:ME}{P:Program}{w:World}{K:Frag}{u:Ya}{v:Heap}{N f:UV}{o:Str}{c:Scope}{p:Addr}{q:Value}{A:Around}{B:List Env}{s I:Shared}{H:Hp}{E:XK}{C:WP}{g:List V}
  (h:rC N f c) (M:A.handled=none) (e0:IW P w K u v A B s H) (T:↑g=↑f) (O:cK g C)
  (x:InCallC s s⁻¹ (bindL (envOfC o c s⁻¹ p q).kindOf (f.zip C) λ_=>none) (cellsFrom (s⁻¹+1) c.names []) (bindC (envOfC o c s⁻¹ p q).kindOf (f.zip C) λ_=>none) I) :
  Inv (DG G P w K u v N o c p q A B s H E) [] (start N g) H I:=by
 let d:↑f<=↑N:=by have:=congrArg List.length h.pre;rw[gI]at this;lia
 let⟨r,z,rfl,F⟩:=x.done;let D:∀ d:Addr,d∉(DG G P w K u v N o c p q A B s H E).ex:=λd z=>absurd (show d∈([]:WF) from z) (by simp)
 exists ⟨e0.mod,h.kind,V,fF _,λy z e r b=>?_,λy i=>?_,λy e _ j=>?_,λ_=>M,Around.frames_deeper e0.frames,.inr ⟨V⟩,λd z=>absurd z (D d),e0.bs,e0.VG,λd _ _=>D d,λd z=>absurd z (D d),e0.yr,e0.Xc⟩,
  rfl,e0.bare,Un.kept F,⟨_,x.toInCall.ns,λl y R r b d=>?_⟩,λy e j=>⟨_,x.cell y e j⟩,e0.hok.fresh (fF _),λy e j=>?_,λd m=>absurd (show d∈([]:List (Addr × Obj)) from m) (by simp),e0.hok.kept F
 ·exact name_of_addr x.apart (PySem.mem_of_lookup r) (PySem.mem_of_lookup b)
 ·let i:c.names.lookup y=⇑.cell\/c.names.lookup y=⇑.free:=i;rcases i with i|i
  ·exact FI i
  ·exact absurd rfl (h.Xv _ (PySem.mem_of_lookup i))
 ·exact gV (x.above y e (PySem.mem_of_lookup j))
 ·let t:l<↑g:=by
   unfold start at b;by_cases t:l<↑g
   ·exact t
   ·rw[List.getElem?_append_right (by simpa using t)]at b;rw[List.getElem?_replicate]at b
    split at b <;> cases b
  let S:g[l]?=⇑R:=by
   unfold start at b;rw[List.getElem?_append_left (by simpa using t),kB]at b
   cases n:g[l]? with
   | none=>rw[n]at b;cases b
   | some a=>rw[n]at b;cases b;rfl
  let⟨b,J,d⟩:=O.get S
  let m:f[l]?=⇑y:=by
   rw[← h.pre,List.getElem?_take_of_lt ∅];exact r
  let L:f.Nodup:=by rw[← h.pre];exact h.nd.sublist (List.take_sublist _ _)
  exists b,d;rcases h.par y (mC m) with k|k
  ·exact .inl ⟨k,Ci L m J k⟩
  ·let⟨e,n⟩:=FI (n:=s⁻¹+1) k;refine .inr ⟨.inl k,e,n,?_⟩;let b:=x.cell y e n;rw[Cj L m J (by show c.names.lookup y≠_;rw[k];decide)]at b;exact b
 ·exact e0.hok.fresh (gV (x.above y e (PySem.mem_of_lookup j)))
 ·unfold start;show _=↑N;rw[cY,b8,yq];lia
theorem rX{j:ME}{P:Program}{w:World}{K:Frag}{k:Ya}{l:Heap}{B:Nat}{f:Addr}{name d:Str}{C:Arguments}{a:Scope}{D kV G I e L oc:Value}{M od:Option Addr}
  {Oe:Array (XB)} {N m:UV} {p:Sp} (lk:K.lookup f=some ⟨oc,od,.func (fnOf name d C O a D kV G I M e L),Oe⟩) (OC:codeIn K e d=true) (i:rC N m a)
  (T:∀ b H Q E,p b H Q E->↑b=↑m)
  (FJ:∀ (A:Around) (g:List Env) (s:Shared) (H:Hp) (b:List V) (Q:VK) (E:XK),jr B (A.deeper (envOfC d a s⁻¹ f e))->p b H Q E->
   ∃ t,KZ (DG j P w K k l N d a f e A g s H E) O t/\t { nx:=λ_ c=>Q .gc c,rt:=Q } (start N b) H) :
  aZ P w K k l j (B+1) f (fnOf name d C O a D kV G I M e L) m p:=by
 refine⟨T,λA g s H args X b Q E r e0 hb ab F=>?_⟩;let hl:=T _ _ _ _ F;let R:K.In s.heap:=e0.mod.eu.keeps λx y n=>(e0.bs x y n).1;have ae:s.heap.NoLimit:=e0.mod.nolimit.keeps λx y n=>(e0.bs x y n).1
 let ag:∀ y∈m.zip X,a.names.lookup y.1=⇑.local\/(a.names.lookup y.1=⇑.cell/\((cellsFrom (s⁻¹+1) a.names []).lookup y.1).isSome=true):=λ⟨ai,v⟩ hy=>by
  rcases i.par ai (List.of_mem_zip hy).1 with q|q
  ·exact .inl q
  ·exact .inr ⟨q,cellsFrom_some _ _ _ (.inl q)⟩
 refine codeAny_call_function r.depth (R _ _ lk) rfl i.co i.gen rfl (PySem.W.codeRec_of R OC) (hb _ _ _ _ ?_);refine wpAny_newFunctionEnv_cells i.kind ag λx he S U=>?_;subst he;refine⟨ae.keeps U.toInCall.keep,codeAny_func ?_⟩;let⟨t,x,y⟩:=FJ A g s H b Q E (r.deeper _) F;have F:Inv (DG j P w K k l N d a f e A g s H E) [] (start N b) H S:=MG i r.hd e0 hl ab U;refine wpAny_mono (x [] S (start N b) H _ F y) (λfl r h=>?_) λn r h=>h;have W:∀ {o:St} {c:Hp} {v:V} {u:Value},Inv (DG j P w K k l N d a f e A g s H E) [] o c r->RelV v u->Q v c->CE g P w H s Q u r := λ{o c v u} J z q=>⟨v,c,J.os,J.bare,J.zt,J.hok,z,q⟩
 cases fl with
 | ret u =>
  let⟨v,o,c,J,z,q⟩:=h;exact W J z q
 | next =>
  let⟨o,c,J,q⟩:=h;exact W (v:=V.gc) (u:=Value.none) J rfl q
 | brk =>
  let⟨_,_,_,q⟩:=h;exact False.elim q
 | cont =>
  let⟨_,_,_,q⟩:=h;exact False.elim q
end _L2
namespace _L2
open Spec Rows
section
variable {X:Cx} {x:Str} {p pos:Pos} {e:Expr} {es:List Expr} {t:TA} {id T:String} {r:List V->Hp->VK->Prop}
def fA(r:List V->Hp->VK->Prop)(t:TA):TE:=fun a H Q=>t a H λa b=>r a b Q
theorem cA(c:jB X (.builtin id) r)(d:Gl X x)(f:X.mg x=none)(g:bootBuiltins x=⇑(.builtin id))(h:PA X (e::es) t)(i:x≠"X":=by decide)(j:(x == ("u":Str))=false:=by decide)
  (k:starEach (e::es) X.env=(false,eval e X.env)::starEach es X.env:=by rfl) (l:(backTo pos (starEach es X.env)).any (·.1)=false:=by rfl):PE X (.Call (.Name x p) (e::es) [] pos) (fA r t):=by
 intro a s b H Q I m;refine wpAny_Call_Name_kw (we I d f g ?_ i j);exact PyProof.Rows.callWith_builtin1 (dP (h pos a s b H _ I m) λm n ⟨o,q,u,v,w⟩=>c a n b q o m Q u v w) k l
theorem fP(c:jB X (.type T) r)(d:Gl X x)(f:X.mg x=none)(g:bootBuiltins x=⇑(.type T))(h:PA X (e::es) t)(i:x≠"X":=by decide)(j:(x == ("u":Str))=false:=by decide)
  (k:starEach (e::es) X.env=(false,eval e X.env)::starEach es X.env:=by rfl) (l:(backTo pos (starEach es X.env)).any (·.1)=false:=by rfl):PE X (.Call (.Name x p) (e::es) [] pos) (fA r t):=by
 intro a s b H Q I m;refine wpAny_Call_Name_kw (we I d f g ?_ i j);exact PyProof.Rows.callWith_type1 (dP (h pos a s b H _ I m) λm n ⟨o,q,u,v,w⟩=>c a n b q o m Q u v w) k l
end
end _L2
namespace _HT
open Rows
section
variable {prog:Program} {w:World} {A:Around} {E:ZB} {s:Shared}
def ji(n d:Nat):Option Int->Nat
 | none=>d
 | some v=>if v<0 then (v+(n:Int)).toNat else min v.toNat n
def Lh(n d k:Nat):ji n d (⇑(k:Int))=min k n:=by
 show (if (k:Int)<0 then ((k:Int)+(n:Int)).toNat else min (k:Int).toNat n)=min k n;rw[if_neg ∅,Int.toNat_natCast]
def Xw(n d:Nat)(b:d<=n)(o:Option Int):ji n d o<=n:=by
 cases o with
 | none=>exact b
 | some v =>
  show (if v<0 then (v+(n:Int)).toNat else min v.toNat n)<=n;by_cases a:v<0
  ·rw[if_pos a];lia
  ·rw[if_neg a];exact Nat.min_le_right _ _
def Li(v:Int)(n d:Nat):(if v<0 then max (v+(n:Int)) 0 else min v (n:Int))=((ji n d (⇑v):Nat):Int):=by
 show (if v<0 then max (v+(n:Int)) 0 else min v (n:Int))=(((if v<0 then (v+(n:Int)).toNat else min v.toNat n):Nat):Int);by_cases a:v<0
 ·simp only[if_pos a];lia
 ·simp only[if_neg a];lia
def IX(lo a:Option Int)(n:Nat):Builtin.Slice.sliceAdjust lo a 1 (n:Int)=(((ji n 0 lo:Nat):Int),((ji n n a:Nat):Int)):=by
 let b:¬ ((1:Int)<0):=by lia
 unfold Builtin.Slice.sliceAdjust;simp only[b,if_false];refine Prod.ext ?_ ?_
 ·cases lo with
  | none=>rfl
  | some v=>exact Li v n 0
 ·cases a with
  | none=>rfl
  | some v=>exact Li v n n
def IY(i j:Nat):Builtin.Slice.slicePlaces (i:Int) (j:Int) 1=j-i:=by
 unfold Builtin.Slice.slicePlaces;let a:(1:Int) > 0:=by lia
 simp only[a,if_true,Int.ediv_one]
 split <;> lia
def zh{v:Value}{o:Option Int}{Q:Option Int->Shared->Prop}(p:IsPart v o)(h:Q o s):wpAny (model prog w) A (Builtin.Slice.slicePartIndex v) Q E s:=by
 cases p with
 | none=>exact slicePart_none h
 | int i t=>exact slicePart_int h
theorem wz{e:Addr}{b c:Value}{lo a:Option Int}{n:Nat}{Q:Int × Int × Nat->Shared->Prop}(f:s.heap.IsSliceOf e b c .none)(g:IsPart b lo)(h:IsPart c a)
  (i:Q (((ji n 0 lo:Nat):Int),1,ji n n a-ji n 0 lo) s):wpAny (model prog w) A (Builtin.Slice.sliceApplied ↥e (pure (n:Int))) Q E s:=by
 let⟨j,d,k,IZ⟩:=id f;unfold Builtin.Slice.sliceApplied Builtin.Slice.sliceFields;refine wpAny_bind (wpAny_bind (wpAny_field d IZ (x:=b) rfl (wpAny_bind (wpAny_field d IZ (x:=c) rfl (wpAny_bind (wpAny_field d IZ (x:=.none) rfl (wpAny_pure ?_)))))));refine wpAny_bind (slicePart_none ?_);show wpAny _ _ (if ((1:Int) == 0)=true then _ else _) _ _ s;rw[if_neg (by decide)];refine wpAny_bind (zh g (wpAny_bind (zh h (wpAny_bind (wpAny_pure ?_)))));show wpAny _ _ (match Builtin.Slice.sliceAdjust lo a 1 (n:Int) with|(lo,a)=>pure (lo,(1:Int),Builtin.Slice.slicePlaces lo a 1)) _ _ s;rw[IX lo a n];show wpAny _ _ (pure (((ji n 0 lo:Nat):Int),(1:Int),Builtin.Slice.slicePlaces ((ji n 0 lo:Nat):Int) ((ji n n a:Nat):Int) 1)) _ _ s;rw[IY];exact wpAny_pure i
def OT(a:Xt)(i k:Nat):((List.range k).filterMap λ(m:Nat)=>a[((i:Int)+(m:Int)*1).toNat]?).toArray=((a.toList.drop i).take k).toArray:=by
 let e:(λ(m:Nat)=>a[((i:Int)+(m:Int)*1).toNat]?)=λm=>a[i+m]?:=by
  funext m;have:((i:Int)+(m:Int)*1).toNat=i+m:=by lia
  rw[this]
 rw[e];have:=pick_run a i k;rw[List.filterMap_map]at this;let b:((λx=>a[x]?) ∘ λx=>i+x)=λm=>a[i+m]?:=rfl;rw[b]at this;rw[this]
theorem uP{t e:Addr}{a:Xt}{f g:Value}{lo b:Option Int}{Q:ZB}(c:IsTup s.heap t a)(i:s.heap.IsSliceOf e f g .none)(j:IsPart f lo)(k:IsPart g b)
  (l:¬ (ji a.size 0 lo=0/\ji a.size a.size b=a.size))
  (h:Q ↥s⁻¹ { s with heap:=s.heap.push { cls:=.type "s",data:=.seq ((a.toList.drop (ji a.size 0 lo)).take (ji a.size a.size b-ji a.size 0 lo)).toArray } })
  (r:a.size<=sizeLine):wpAny (model prog w) A (getItem ↥t ↥e) Q E s:=by
 let d:sizeOk (.seq ((a.toList.drop (ji a.size 0 lo)).take (ji a.size a.size b-ji a.size 0 lo)).toArray):=by
  show ((a.toList.drop (ji a.size 0 lo)).take (ji a.size a.size b-ji a.size 0 lo)).toArray.size<=sizeLine;rw[iF,gI,qy,Array.length_toList];lia
 let m:ji a.size a.size b<=a.size:=Xw _ _ (fF _) b;let⟨m,n,o,IZ⟩:=id i;let p:s.TypeIs ↥e "slice":=⟨m,n,o⟩;unfold getItem
 try with_reducible refine wpAny_holding ?_
 first|refine wpAny_bind (wpAny_pure ?_)|skip
 refine wpAny_bind (wpAny_sequenceKey c.typeIs (by decide) ?_);refine wpAny_bind (wpAny_callSpecial?_slot (name:=Str.ofString "__getitem__") c.typeIs PyProof.Rows.slot_tuple_getitem (wpAny_call_entry PyProof.Rows.slot_tuple_getitem c.typeIs entry_tuple_getitem ?_ (args_tuple_getitem _ _)));show wpAny _ _ (Builtin.Tuple.tupleItemsOf ↥t >>= _) _ _ s;refine wpAny_bind (tupleItemsOf_ c ?_);refine wpAny_bind (wpAny_typeOf p ?_);rw[if_pos (by decide)];refine wpAny_bind (wz i j k ?_)
 let m:¬ ((((ji a.size 0 lo:Nat):Int) == 0&&(1:Int) == 1&&(ji a.size a.size b-ji a.size 0 lo) == a.size)=true):=by
  intro q;rw[Bool.and_eq_true,Bool.and_eq_true]at q;let n:((ji a.size 0 lo:Nat):Int)=0:=eq_of_beq q.1.1;let n:ji a.size a.size b-ji a.size 0 lo=a.size:=eq_of_beq q.2;exact l ⟨by lia,by lia⟩
 show wpAny _ _ (if (((ji a.size 0 lo:Nat):Int) == 0&&(1:Int) == 1&&(ji a.size a.size b-ji a.size 0 lo) == a.size)=true then _ else _) _ _ s;rw[if_neg m,OT]
 first
  | exact wpAny_bind (m:=Builtin.Tuple.tupleExact _) (wpAny_newObj_type (wpAny_pure ⟨Y,wpAny_pure h⟩) d)
  | exact wpAny_bind (m:=Builtin.Tuple.tupleExact _) (wpAny_newObj_type (wpAny_bind (wpAny_pure (wpAny_pure ⟨Y,wpAny_pure h⟩))) d)
  | exact wpAny_bind (wpAny_bind (m:=Builtin.Tuple.tupleExact _) (wpAny_newObj_type (wpAny_pure (wpAny_pure ⟨Y,wpAny_pure h⟩)) d))
  | exact wpAny_bind (wpAny_bind (m:=Builtin.Tuple.tupleExact _) (wpAny_newObj_type (wpAny_pure ⟨Y,wpAny_pure h⟩) d))
end
end _HT
namespace _L2
open Spec Rows
abbrev TO:=St->Hp->(Option Int->Hp->Prop)->Prop
def PO(a:Cx)(e:Option Expr)(t:TO):Prop :=
 ∀ (c:List (Addr × Obj)) (s:Shared) (b:St) (H:Hp) (Q:Option Int->Hp->Prop),Inv a c b H s->t b H Q->
  wpAny (model a.prog a.w) a.A (evalPart e a.env) (λu f=>∃ o d,Inv a c b d f/\IsPart u o/\Q o d) a.xe s
def Tc:TO:=λ_ H Q=>Q none H
def r3(t:TE):TO:=fun a H Q=>t a H λx a=>pu x a Q
def intsAre_of{a:Wp}:∀ {b:WP},cK (a.map V.int) b->IntsAre b a:=by
 induction a with
 | nil=>intro b r;rw[List.map_nil]at r;cases r;exact .nil
 | cons n a c =>
  intro b r;rw[iu]at r
  cases r with
  | cons d e =>
   let⟨t,f⟩:=d;subst f;exact .cons n t (c e)
section
variable {X:Cx} {e:Expr} {te:TE} {lo c:Option Expr} {tl th:TO} {pos p2:Pos}
def nH:PO X none Tc:=by
 intro a s b H Q I h;rw[evalPart_none];exact wpAny_pure ⟨none,H,I,.none,h⟩
def jj(h:PE X e te):PO X (⇑e) (r3 te):=by
 intro a s b H Q I c;rw[evalPart_some];refine dP (h a s b H _ I c) λu b a=>?_;let⟨x,d,f,g,j⟩:=a;let⟨i,rfl,q⟩:=j;let⟨t,rfl⟩:=g;exact⟨⇑i,d,f,.int i t,q⟩
def fI(X:Cx)(r:V->Option Int->Option Int->Hp->VK->Prop):Prop :=
 ∀ (a:List (Addr × Obj)) (s:Shared) (b:St) (H:Hp) (x:V) (v d e:Value) (lo c:Option Int) (f:Addr) (Q:VK),Inv X a b H s->RelV x v->s.heap.IsSliceOf f d e .none->IsPart d lo->IsPart e c->r x lo c H Q->
  ∃ T d,typeLookup (.type T) "__getitem__"=pure (⇑(.builtin d))/\s.TypeIs v T/\wpAny (model X.prog X.w) X.A (getItem v ↥f) (EP X a b Q) X.xe s
def r4(r:V->Option Int->Option Int->Hp->VK->Prop)(te:TE)(tl th:TO):TE:=fun a H Q=>te a H λx b=>tl a b λl b=>th a b λu a=>r x l u a Q
def jb{r:V->Option Int->Option Int->Hp->VK->Prop}(i:fI X r)(j:PE X e te)(k:PO X lo tl)(l:PO X c th):PE X (.Subscript e (.Slice lo c none p2) pos) (r4 r te tl th):=by
 intro b s d H Q I h;refine Subscript_ (dP (j b s d H _ I h) λv a f=>?_);let⟨x,g,h,m,n⟩:=f;refine wpAny_Slice (dP (k b a d g _ h n) λf a ⟨n,g,h,o,p⟩=>dP (l b a d g _ h p) λg a p=>?_);let⟨u,h,q,t,w⟩:=p;rw[evalPart_none];refine wpAny_pure ?_;let p:Inv X b d h { a with heap:=a.heap.push { cls:=.type "slice",data:=.fields (List.toArray [f,g,.none]) } }:=q.kept (t':=a.toks) λy z q=>Heap.get?_push_of_some _ q;let⟨T,A,q,y,z⟩:=i b { a with heap:=a.heap.push { cls:=.type "slice",data:=.fields (List.toArray [f,g,.none]) } } d h x v f g n u a⁻¹ Q p m (Heap.IsSliceOf.new ..) o t w;show wpAny (model X.prog X.w) X.A (subscriptTail e (.Slice lo c none p2) v ↥a⁻¹) (EP X b d Q) X.xe { a with heap:=a.heap.push { cls:=.type "slice",data:=.fields (List.toArray [f,g,.none]) } };exact tail_any (ops:=[↥a⁻¹,v]) y q z (by with_unfolding_all rfl)
def kL(a:List V)(lo c:Option Int):List V:=(a.drop (_HT.ji ↑a 0 lo)).take (_HT.ji ↑a ↑a c-_HT.ji ↑a 0 lo)
def xN(a:List V)(lo c:Option Int):↑(kL a lo c)<=↑a:=by
 unfold kL;rw[gI,qy];lia
def r6(K:Frag):V->Option Int->Option Int->Hp->VK->Prop:=λx lo c H Q=>∃ b a,x=↥b/\dN K H b a/\
 ¬ (_HT.ji ↑a 0 lo=0/\_HT.ji ↑a ↑a c=↑a)/\∀ p,H p=none->Q ↥p (aO H p (.tup (kL a lo c)))
def Xx:fI X (r6 X.K):=by
 intro e s k H x v l m lo c n Q I b f g h d;let⟨o,a,rfl,i,j,q⟩:=d;cases b;let⟨k,r,d,e⟩:=I.tuple i;let b:k.toArray.size=↑a:=by rw[iF];exact r.length.symm
 exists "s",_,PyProof.Rows.slot_tuple_getitem.lookup,d.typeIs;refine _HT.uP d f g h (by rw[b];exact j) ?_ (by rw[b];exact e);rw[b];refine⟨↥s⁻¹,_,I.laid (t':=s.toks) (o:=.tup (kL a lo c)) (λb d q=>Heap.get?_push_of_some _ q) (fF _) ?_,1,q _ (I.hok.fresh (fF _))⟩;exact⟨Nat.le_trans (xN a lo c) e,_,(r.drop (_HT.ji ↑a 0 lo)).take (_HT.ji ↑a ↑a c-_HT.ji ↑a 0 lo),IsTup.new _ _⟩
end
end _L2
namespace _L2
open Spec Rows
def Lk(n:Nat)(i:Int):Option Nat:=if 0<=i then (if i<n then some i.toNat else none) else if -(n:Int)<=i then some (i+n).toNat else none
def oU{a:Type}(b:List a)(i:Int):Option a:=(Lk ↑b i).bind λj=>b[j]?
def Ll{n:Nat}{i:Int}{j:Nat}(h:Lk n i=⇑j):seqIndex? i n=⇑j/\j<n/\-(n:Int)<=i/\i<n:=by
 unfold Lk at h;by_cases b:0<=i
 ·rw[if_pos b]at h;by_cases a:i<n
  ·rw[if_pos a]at h;let e:i.toNat=j:=qz h;exact⟨by rw[seqIndex_of b a,e],by lia,by lia,a⟩
  ·rw[if_neg a]at h;cases h
 ·rw[if_neg b]at h;by_cases a:-(n:Int)<=i
  ·rw[if_pos a]at h;let e:(i+n).toNat=j:=qz h;exact⟨by rw[seqIndex_neg ∅ a,e],by lia,a,by lia⟩
  ·rw[if_neg a]at h;cases h
def DH{b:Type}{a:List b}{i:Int}{v:b}(h:oU a i=⇑v):∃ j,seqIndex? i ↑a=⇑j/\a[j]?=⇑v/\j<↑a/\-(↑a:Int)<=i/\i<↑a:=by
 unfold oU at h
 cases e:Lk ↑a i with
 | none=>rw[e]at h;cases h
 | some j =>
  rw[e]at h;let⟨c,d,f,g⟩:=Ll e;exact⟨j,c,h,d,f,g⟩
def dh{b:Type}{a:List b}{j:Nat}{v:b}(h:a[j]?=⇑v):oU a (j:Int)=⇑v:=by
 let c:j<↑a:=(List.getElem?_eq_some_iff.mp h).1
 let e:Lk ↑a (j:Int)=⇑j:=by
  unfold Lk;rw[if_pos ∅,if_pos ∅];simp
 unfold oU;rw[e];exact h
def OU{b:Type}(a:List b)(v:b):oU (a++[v]) (-1)=⇑v:=by
 let c:↑(a++[v])=↑a+1:=by simp
 let e:Lk ↑(a++[v]) (-1)=some ↑a:=by
  unfold Lk;rw[c,if_neg (by decide),if_pos ∅];congr 1;lia
 unfold oU;rw[e];show (a++[v])[↑a]?=⇑v;simp
def Lm(b:Expr):Prop:=∀ o i,subscripted b false o i=operate [o,i] (getItem o i)
def Xy(a:Cx)(r:R2):Prop :=
 ∀ (e b:Expr) (c:List (Addr × Obj)) (s:Shared) (d:St) (H:Hp) (x y:V) (v u:Value) (Q:VK),Inv a c d H s->RelV x v->RelV y u->r x y H Q->
  subscripted b false v u=operate [v,u] (getItem v u)->wpAny (model a.prog a.w) a.A (subscriptTail e b v u) (EP a c d Q) a.xe s
def ia(a:Cx)(f:String)(r:V->List V->Hp->VK->Prop):Prop :=
 ∀ (b:List (Addr × Obj)) (s:Shared) (c:St) (H:Hp) (x:V) (d:List V) (v:Value) (e:WP) (Q:VK),Inv a b c H s->RelV x v->cK d e->r x d H Q->
  wpAny (model a.prog a.w) a.A (call (.builtin f) (v::e)) (EP a b c Q) a.xe s
section
variable {X:Cx} {a b:Expr} {ta tb:TE} {pos:Pos}
def sb{r:R2}(c:Xy X r)(d:PE X a ta)(f:PE X b tb)(g:Lm b):PE X (.Subscript a b pos) (c' r ta tb):=by
 intro e s h H Q I i;exact Subscript_ (Xo d f I i λv u i x y j k l m q=>c a b e i h j x y v u Q k l m q (g _ _))
inductive ib(K:Frag)(x y:V)(H:Hp)(Q:VK):Prop
 | mk (p:Addr) (c:List V) (i:Int) (v:V) (_:x=↥p) (_:y=.int i) (_:bJ K H p c) (_:oU c i=⇑v) (_:Q v H)
inductive ih(K:Frag)(x y:V)(H:Hp)(Q:VK):Prop
 | mk (p:Addr) (c:List V) (i:Int) (v:V) (_:x=↥p) (_:y=.int i) (_:dN K H p c) (_:oU c i=⇑v) (_:Q v H)
def si:R2:=λx y H Q=>∃ z i c,x=.str z/\y=.int i/\↑z<=sizeLine/\oU z.cps.toList i=⇑c/\Q (.str ⟨(List.toArray [c])⟩) H
def bK:Xy X (ib X.K):=by
 intro j k d s e H x y v u Q I a b h f;let⟨p,l,i,z,rfl,rfl,c,g,q⟩:=h;cases a;let⟨t,rfl⟩:=b;let⟨l,r,b,a⟩:=I.list c;let⟨j,a,c,h,m,n⟩:=DH g;let⟨w,g,k⟩:=r.get c;let o:=↑r;let c:=tW;let h:EP X d e Q w s:=⟨z,H,I,k,q⟩;by_cases k:0<=i
 ·let c:i.toNat=j:=by
   rw[seqIndex_of k n]at a;exact qz a
  exact item_listR b.isList k ∅ (by rw[c];simpa using g) h f
 ·let c:(i+(l.toArray.size:Int)).toNat=j:=by
   rw[seqIndex_neg ∅ m]at a;rw[iF,← o];exact qz a
  exact subscriptTail_builtinR (x:=w) b.isList.typeIs slot_list_getitem.lookup
   (wpAny_getItem_list_neg (Q:=λr a=>r=w/\EP X d e Q r a) b.isList ∅ (by rw[iF] <;> lia) ∅ (by rw[c];simpa using g) ⟨1,h⟩) f
def bh:Xy X (ih X.K):=by
 intro i j a s b H x y v u Q I c d h e;let⟨p,k,l,z,rfl,rfl,f,g,q⟩:=h;cases c;let⟨t,rfl⟩:=d;let⟨d,r,c,h⟩:=I.tuple f;let⟨j,d,f,h,i,k⟩:=DH g;let⟨w,g,h⟩:=r.get f;let f:=↑r;let i:=tW;let i:EP X a b Q w s:=⟨z,H,I,h,q⟩;exact subscriptTail_builtinR (x:=w) c.typeIs slot_tuple_getitem.lookup (getItem_tuple (j:=j) (Q:=λr h=>r=w/\EP X a b Q r h) c ∅ ∅ (by rw[iF,← f];exact d) (by simpa using g) ⟨1,i⟩) e
def OV:Xy X si:=by
 intro f g j s k H x y v u Q I a b h d;let⟨z,i,c,rfl,rfl,f,e,q⟩:=h;let⟨t,rfl⟩:=a;let⟨l,rfl⟩:=b;let⟨j,a,b,h,f,g⟩:=DH e;let e:↑z.cps.toList=↑z:=by simp[Str.length]
 rw[e]at a f g;let e:=tW
 exact tail_any (typeIs_str s z t) slot_str_getitem.lookup (getItem_str (c:=c) (by
  let e:decide (i < -(2^63:Int))=false:=decide_eq_false ∅;let f:decide (i>=2^63)=false:=decide_eq_false ∅
  rw[e,f,Bool.or_false]) (by rw[a];simpa using b) ⟨.str ⟨(List.toArray [c])⟩,H,I.tok _,⟨Y⟩,q⟩) d
def I0(c:WP)(n j:Nat)(u:Value):Obj.mapSeq (·.setIfInBounds j u) { cls:=.type "h",data:=.seq c.toArray n }={ cls:=.type "h",data:=.seq (c.set j u).toArray n }:=by
 simp[Obj.mapSeq]
theorem Inv.lst{f:List (Addr × Obj)}{g:St}{H:Hp}{s:Shared}{p:Addr}{d:List V}(I:Inv X f g H s)(h:H p=⇑(.lst d)) :
  ∃ (c:WP) (n:Nat),cK d c/\s.heap.get? p=some { cls:=.type "h",data:=.seq c.toArray n }/\↑d<=sizeLine:=by
 let⟨z,c,n,r,e⟩:=I.hok p _ h;exact⟨c,n,r,e,z⟩
theorem Inv.Xz{h:St}{H:Hp}{s:Shared}{p:Addr}{k d:List V}{i c:WP}{n g:Nat}{f:Obj->Obj}(I:Inv X l h H s)(m:H p=⇑(.lst k))
  (q:s.heap.get? p=some { cls:=.type "h",data:=.seq i.toArray n }) (j:f { cls:=.type "h",data:=.seq i.toArray n }={ cls:=.type "h",data:=.seq c.toArray g }) (r:cK d c) (u:↑d<=sizeLine) (t:Nat) :
  Inv X l h (aO H p (.lst d)) { s with heap:=s.heap.update p f,toks:=t }:=by
 let e:(s.heap.update p f).get? p=some { cls:=.type "h",data:=.seq c.toArray g }:=by
  rw[Heap.get?_update_self f q (by rw[j] <;> rfl),j]
 refine I.write (x:=p) (e:=p) (by rw[m];trivial) (.inl rfl) (λb v a o=>(Heap.get?_update_other _ _ (Ne.symm a)).trans o) ⟨_,e⟩ ?_;exact⟨u,c,g,r,e⟩
inductive sv(o i v:V)(H:Hp)(Q:Hp->Prop):Prop
 | mk (p:Addr) (c:List V) (k:Int) (j:Nat) (_:o=↥p) (_:i=.int k) (_:H p=⇑(.lst c)) (_:Lk ↑c k=⇑j) (_:Q (aO H p (.lst (c.set j v))))
def jH:hP X sv:=by
 intro i s l H o e v f g u Q I a b m h;let⟨p,n,k,j,rfl,rfl,d,c,q⟩:=h;cases a;let⟨t,rfl⟩:=b;let⟨e,w,r,b,x⟩:=I.lst d;let⟨a,h,f,g⟩:=Ll c;let c:=↑r;let h:=tW;let h:Inv X i l (aO H p (.lst (n.set j v))) { s with heap:=s.heap.update p (Obj.mapSeq (·.setIfInBounds j u)) } := I.Xz d b (I0 e w j u) (r.set m j) (by rw[List.length_set];exact x) s.toks;by_cases i:0<=k
 ·let d:k.toNat=j:=by
   rw[seqIndex_of i g]at a;exact qz a
  exact PySem.W.ki_setAt b i ∅ (by rw[iF,← c];exact g) (by rw[d];exact⟨_,h,q⟩)
 ·let d:(k+(e.toArray.size:Int)).toNat=j:=by
   rw[seqIndex_neg ∅ f]at a;rw[iF,← c];exact qz a
  exact PySem.W.ki_setBack b ∅ (by rw[iF,← c];exact f) ∅ (by rw[d];exact⟨_,h,q⟩)
def DJ(lo c:Option Int)(n:Nat):(sliceBounds lo c none n).1=((_HT.ji n 0 lo:Nat):Int)/\(sliceBounds lo c none n).2.1=((_HT.ji n n c:Nat):Int)/\(sliceBounds lo c none n).2.2=1:=by
 refine⟨?_,?_,1⟩
 ·cases lo with
  | none=>simp[sliceBounds,_HT.ji]
  | some i =>
   simp only[sliceBounds,_HT.ji,Option.getD_none,show (1:Int) > 0 by decide,if_true];by_cases h:i<0
   ·simp only[h,if_true] <;> lia
   ·simp only[h,if_false] <;> lia
 ·cases c with
  | none=>simp[sliceBounds,_HT.ji]
  | some i =>
   simp only[sliceBounds,_HT.ji,Option.getD_none,show (1:Int) > 0 by decide,if_true];by_cases h:i<0
   ·simp only[h,if_true] <;> lia
   ·simp only[h,if_false] <;> lia
def Bo(c:WP)(lo d:Option Int):slicePick c.toArray lo d none=((c.drop (_HT.ji ↑c 0 lo)).take (_HT.ji ↑c ↑c d-_HT.ji ↑c 0 lo)).toArray:=by
 let⟨a,b,e⟩:=DJ lo d c.toArray.size;unfold slicePick;rw[a,b,e]
 simp only[sliceRange_one,pick_run,iF] <;> rfl
inductive ii(K:Frag)(x:V)(lo hi:Option Int)(H:Hp)(Q:VK):Prop
 | mk (a:Addr) (c:List V) (_:x=↥a) (_:bJ K H a c) (_:∀ p,H p=none->Q ↥p (aO H p (.lst (kL c lo hi)))):ii K x lo hi H Q
def l6:fI X (ii X.K):=by
 intro k s l H x v m n lo d o Q I e f g h i;let⟨a,c,rfl,j,q⟩:=i;cases e;let⟨k,r,e,i⟩:=I.list j;let j:=↑r;exists "h",_,slot_list_getitem.lookup,e.isList.typeIs
 refine wpAny_getItem_list_slice e.isList f g h .none (by simp) ?_ (by rw[iF] <;> lia)
 rw[Bo,← j];refine⟨↥s⁻¹,_,I.laid (t':=s.toks) (o:=.lst (kL c lo d)) (λb e q=>Heap.get?_push_of_some _ q) (fF _) ?_,1,q _ (I.hok.fresh (fF _))⟩;exact⟨Nat.le_trans (xN c lo d) i,_,0,(r.drop (_HT.ji ↑c 0 lo)).take (_HT.ji ↑c ↑c d-_HT.ji ↑c 0 lo),Heap.get?_push_size _ rfl⟩
def uQ:V->Bool
 | .gc=>true
 | .bl _=>true
 | .int _=>true
 | .str _=>true
 | _=>false
def VO:V->V->Bool
 | .gc,.gc=>true
 | .bl a,.bl b=>a == b
 | .bl a,.int b=>(if a then 1 else 0) == b
 | .int a,.bl b=>a == (if b then 1 else 0)
 | .int a,.int b=>a == b
 | .str a,.str b=>a == b
 | _,_=>false
def XA{A:Around}{s:Shared}{y x:V}{u v:Value}(f:RelV y u)(c:RelV x v)(h:uQ y=true)(g:uQ x=true):SeqAt.EqAt A s u v (VO y x):=by
 cases y with
 | gc =>
  cases f
  cases x with
  | gc=>cases c;exact SeqAt.EqAt.same _
  | bl b=>cases c;exact SeqAt.EqAt.none_bool b
  | int b=>let⟨t,rfl⟩:=c;exact SeqAt.EqAt.none_int b t
  | str b=>let⟨t,rfl⟩:=c;exact SeqAt.EqAt.none_str b t
  | _=>exact absurd (show false=true from g) gP
 | bl a =>
  cases f
  cases x with
  | gc=>cases c;exact SeqAt.EqAt.bool_none a
  | bl b=>cases c;exact SeqAt.EqAt.bool_bool a b
  | int b=>let⟨t,rfl⟩:=c;exact SeqAt.EqAt.bool_int a b t
  | str b=>let⟨t,rfl⟩:=c;exact SeqAt.EqAt.bool_str a b t
  | _=>exact absurd (show false=true from g) gP
 | int a =>
  let⟨d,rfl⟩:=f
  cases x with
  | gc=>cases c;exact SeqAt.EqAt.int_none a d
  | bl b=>cases c;exact SeqAt.EqAt.int_bool a d b
  | int b=>let⟨t,rfl⟩:=c;exact SeqAt.EqAt.int_int a d b t
  | str b=>let⟨t,rfl⟩:=c;exact SeqAt.EqAt.int_str a d b t
  | _=>exact absurd (show false=true from g) gP
 | str a =>
  let⟨d,rfl⟩:=f
  cases x with
  | gc=>cases c;exact SeqAt.EqAt.str_none a d
  | bl b=>cases c;exact SeqAt.EqAt.str_bool a d b
  | int b=>let⟨t,rfl⟩:=c;exact SeqAt.EqAt.str_int a d b t
  | str b=>let⟨t,rfl⟩:=c;exact SeqAt.EqAt.str_str a d b t
  | _=>exact absurd (show false=true from g) gP
 | _=>exact absurd (show false=true from h) gP
def Ja(x:V)(u:Value):Bool:=match u with
 | .none=>VO .gc x
 | .bool b=>VO (.bl b) x
 | .int i _=>VO (.int i) x
 | .str z _=>VO (.str z) x
 | _=>false
def OW{x y:V}{u:Value}(r:RelV y u)(f:uQ y=true):Ja x u=VO y x:=by
 cases y with
 | gc=>cases r;rfl
 | bl b=>cases r;rfl
 | int i=>let⟨t,rfl⟩:=r;rfl
 | str z=>let⟨t,rfl⟩:=r;rfl
 | _=>exact absurd (show false=true from f) gP
theorem uR{x:V}:∀ {c:List V} {d:WP},cK c d->c.all uQ=true->d.any (Ja x)=c.any λy=>VO y x
 | _,_,.nil,_=>rfl
 | y::c,u::d,.cons r t,f=>by
  rw[List.all_cons,Bool.and_eq_true]at f;rw[List.any_cons,List.any_cons,OW r f.1,uR t f.2]
theorem qF{A:Around}{s:Shared}{x:V}{v:Value}(g:RelV x v)(h:uQ x=true):∀ {c:List V} {d:WP},cK c d->c.all uQ=true->∀ u∈d,SeqAt.EqAt A s u v (Ja x u)
 | _,_,.nil,_=>λu a=>by cases a
 | y::c,u::d,.cons r t,f=>λb a=>by
  rw[List.all_cons,Bool.and_eq_true]at f;rcases List.mem_cons.mp a with rfl|a
  ·rw[OW r f.1];exact XA r g f.1 h
  ·exact qF g h t f.2 b a
def eJ(x:V)(c:List V):Bool:=c.any λy=>VO y x
inductive XC(K:Frag)(xs:List V)(H:Hp)(Q:VK):Prop
 | mk (p:Addr) (c:List V) (_:xs=[↥p]) (_:bJ K H p c\/dN K H p c) (_:Q (.int ↑c) H):XC K xs H Q
inductive ij(K:Frag)(xs:List V)(H:Hp)(Q:VK):Prop
 | mk (p:Addr) (c:List V) (_:xs=[↥p]) (_:bJ K H p c\/dN K H p c) (_:∀ l,H l=none->Q ↥l (aO H l (.lst c)))
def f'(K:Frag)(c:Bool):R2:=λx y H Q=>∃ p a,y=↥p/\(bJ K H p a\/dN K H p a)/\uQ x=true/\a.all uQ=true/\Q (.bl (if c then !eJ x a else eJ x a)) H
def Ck:tV X (compareOp .In) (f' X.K false):=by
 intro d s e H x y v u Q I f b h;let⟨p,i,rfl,a,g,c,q⟩:=h;cases b;rcases a with a|a
 ·let⟨b,r,d,h⟩:=I.list a;refine SeqAt.in_listAt (Ja x) d.isList (λw e=>qF f g r c w (by simpa using e)) ⟨.bl _,H,I,1,?_⟩;rw[show b.toArray.any (Ja x)=b.any (Ja x) by simp,uR r c];exact q
 ·let⟨b,r,d,h⟩:=I.tuple a;refine SeqAt.in_tupleAt (Ja x) d (λw e=>qF f g r c w (by simpa using e)) ⟨.bl _,H,I,1,?_⟩;rw[show b.toArray.any (Ja x)=b.any (Ja x) by simp,uR r c];exact q
def o6:tV X (compareOp .NotIn) (f' X.K true):=by
 intro d s e H x y v u Q I f b h;let⟨p,i,rfl,a,g,c,q⟩:=h;cases b;rcases a with a|a
 ·let⟨b,r,d,h⟩:=I.list a;refine SeqAt.notIn_listAt (Ja x) d.isList (λw e=>qF f g r c w (by simpa using e)) ⟨.bl _,H,I,1,?_⟩;rw[show b.toArray.any (Ja x)=b.any (Ja x) by simp,uR r c];exact q
 ·let⟨b,r,d,h⟩:=I.tuple a;refine SeqAt.notIn_tupleAt (Ja x) d (λw e=>qF f g r c w (by simpa using e)) ⟨.bl _,H,I,1,?_⟩;rw[show b.toArray.any (Ja x)=b.any (Ja x) by simp,uR r c];exact q
def DK:jB X (.builtin "len") (XC X.K):=by
 intro c s d H f g Q I r h;let⟨p,e,rfl,a,q⟩:=h;let⟨u,rfl,b⟩:=vals1 r;cases b;let b:=tW;rcases a with a|a
 ·let⟨f,b,c,g⟩:=I.list a;let d:=↑b
  exact Calls.call_len_list c.isList (by simp only[iF] <;> lia) ⟨.int ↑e,H,I.tok _,⟨s.toks+1,by rw[iF,d]⟩,q⟩
 ·let⟨f,b,c,g⟩:=I.tuple a;let d:=↑b
  exact len_tuple c (by simp only[iF] <;> lia) ⟨.int ↑e,H,I.tok _,⟨s.toks+1,by rw[iF,d]⟩,q⟩
def uS:jB X (.builtin "len") (λc H Q=>∃ z,c=[.str z]/\↑z<=sizeLine/\Q (.int ↑z) H):=by
 intro a s b H c d Q I r h;let⟨z,rfl,a,q⟩:=h;let⟨u,rfl,t,rfl⟩:=vals1 r;let a:=tW;exact len_str ∅ ⟨.int ↑z,H,I.tok _,⟨Y⟩,q⟩
def gK:jB X (.type "h") (ij X.K):=by
 intro q s t H z A Q I r u;let⟨p,i,rfl,g,v⟩:=u;let⟨B,rfl,w⟩:=vals1 r;cases w
 let n:∀ (c:WP),cK i c->↑i<=sizeLine->∀ (a:Heap) (d:Nat),(∀ b f,s.heap.get? b=⇑f->a.get? b=⇑f)->
   a.get? s⁻¹=some { cls:=.type "h",dict:=none,data:=.seq c.toArray d,slots:=#[] }->EP X q t Q ↥s⁻¹ { s with heap:=a }:=λc f h a d kp e =>
  ⟨↥s⁻¹,_,I.laid (t':=s.toks) kp (fF _) (show gn X.prog X.w _ a _ (.lst i) from ⟨h,c,d,f,e⟩),1,v _ (I.hok.fresh (fF _))⟩
 rcases g with g|g
 ·let⟨c,f,j,h⟩:=I.list g;let x:=↑f;let⟨o,k,l,y,m⟩:=j.isList
  exact call_list_seq p (.inl rfl) k l m (λa d kp e=>n c f h a d kp e) (by simp only[iF] <;> lia)
 ·let⟨c,f,j,h⟩:=I.tuple g;let x:=↑f;let⟨o,k,l,y,m⟩:=j
  exact call_list_seq p (.inr rfl) k l m (λa d kp e=>n c f h a d kp e) (by simp only[iF] <;> lia)
def ga(K:Frag)(T:String)(x:V)(H:Hp):Prop:=match x with
 | .str _=>T="str"
 | .int _=>T="int"
 | .ref p=>(T="h"/\∃ a,bJ K H p a)\/(T="s"/\∃ o,K.lookup p=⇑o/\o.cls=.type "s"/\o.dict=none)\/
   (T="4"/\((∃ a,H p=⇑(.dK a))\/∃ a,H p=⇑(.dT a)))\/(T="set"/\∃ S n,H p=⇑(.set S n))
 | _=>False
theorem OX{i:St}{H:Hp}{s:Shared}{T:String}{x:V}{v:Value}(I:Inv X l i H s)(r:RelV x v)(d:ga X.K T x H) :
  s.TypeIs v T/\∀ a,v=↥a->∃ h,s.heap.get? a=⇑h/\h.dict=none:=by
 cases x with
 | str z =>
  let⟨t,rfl⟩:=r;cases (show T="str" from d);exact⟨typeIs_str s z t,λ_ e=>nomatch e⟩
 | int b =>
  let⟨t,rfl⟩:=r;cases (show T="int" from d);exact⟨typeIs_int s b t,λ_ e=>nomatch e⟩
 | ref p =>
  cases r;rcases d with ⟨rfl,m,j⟩|⟨rfl,o,b,k,f⟩|⟨rfl,b⟩|⟨rfl,S,n,b⟩
  ·let⟨g,_,c,_⟩:=I.list j;refine⟨c.isList.typeIs,λa e=>?_⟩;cases e;let⟨o,n,e,g,f,_⟩:=c;exact⟨o,e,f⟩
  ·refine⟨⟨o,I.xH p o b,k⟩,λa e=>?_⟩;cases e;exact⟨o,I.xH _ o b,f⟩
  ·let z:∃ o,s.heap.get? p=⇑o/\o.ExactDict:=by
    rcases b with ⟨f,b⟩|⟨f,b⟩
    ·let⟨_,_,_,_,o,_,_,e,c,_⟩:=I.hok p _ b;exact⟨o,e,c⟩
    ·let⟨_,_,_,_,o,_,_,e,c,_⟩:=I.hok p _ b;exact⟨o,e,c⟩
   let⟨o,e,c⟩:=z;refine⟨⟨o,e,c.1⟩,λa g=>?_⟩;cases g;exact⟨o,e,c.2.1⟩
  ·let⟨o,_,_,_,e,c,_⟩:=I.hok p _ b;refine⟨⟨o,e,c.1⟩,λa g=>?_⟩;cases g;exact⟨o,e,c.2.1⟩
 | _=>exact False.elim d
def sw(K:Frag)(T:String)(r:V->List V->Hp->VK->Prop)(to:TE):TE:=fun a H Q=>to a H λx a=>ga K T x a/\r x [] a Q
def sF(K:Frag)(T:String)(r:V->List V->Hp->VK->Prop)(to:TE)(t:TA):TE:=fun a H Q=>to a H λx b=>ga K T x b/\t a b λa b=>r x a b Q
variable {o e:Expr} {es:List Expr} {to:TE} {t:TA} {name:Str} {j7 oE:Pos} {T id:String} {r:V->List V->Hp->VK->Prop}
theorem DL(f:PlainAttrs T)(g:Slot T name id)(h:typeOf (.builtin id)=pure (.type "method_descriptor"))(i:ia X id r)(j:PE X o to)
  (k:attributeBase o name X.env (eval o X.env)=eval o X.env:=by rfl) (l:(j7.endLine == oE.line)=true:=by rfl):PE X (.Call (.Attribute o name j7) [] [] oE) (sw X.K T r to):=by
 intro a s b H Q I e;refine wpAny_Call_method0_late k l (dP (j a s b H _ I e) λv m e=>?_);let⟨x,n,c,d,p,q⟩:=e;let⟨e,t⟩:=OX c d p;exact⟨T,id,f,g,h,e,t,Calls.callWith_builtin rfl (PySem.evalArgs_none (i a m b n x [] v [] Q c d .nil q))⟩
theorem dZ(g:PlainAttrs T)(h:Slot T name id)(i:typeOf (.builtin id)=pure (.type "method_descriptor"))(j:ia X id r)(k:PE X o to)(l:PA X (e::es) t)
  (m:attributeBase o name X.env (eval o X.env)=eval o X.env:=by rfl)
  (n:((backTo oE (starEach (e::es) X.env)).all (λx=>!x.1)&&(backToKw oE (keywordEach [] X.env)).all (λx=>x.1.isSome)
   && decide (↑(e::es)+↑([]:List Keyword)+(if ([]:List Keyword).isEmpty then 0 else 1)<30))=true:=by rfl)
  (p:(j7.endLine == oE.line)=true:=by rfl) (q:starEach (e::es) X.env=(false,eval e X.env)::starEach es X.env:=by rfl) (u:(backTo oE (starEach es X.env)).any (·.1)=false:=by rfl) :
  PE X (.Call (.Attribute o name j7) (e::es) [] oE) (sF X.K T r to t):=by
 intro a s b H Q I c;refine wpAny_Call_method_late m n p rfl (dP (k a s b H _ I c) λv w y=>?_);let⟨x,z,c,d,A,B⟩:=y;let⟨y,C⟩:=OX c d A;exists T,id,g,h,i,y,C;let f:=l oE a w b z _ c B;rw[q]at f ⊢
 refine Calls.callWith_builtin (by show (false || (backTo oE (starEach es X.env)).any (·.1))=false;rw[u] <;> rfl) (Calls.evalArgs_plain ?_)
 exact dP f λc f ⟨w,y,z,A,B⟩=>j a f b y x w v c Q z d A B
end
end _L2
namespace _L2
open Spec Rows
def VP(a:Cx)(f:String)(r:V->List V->Hp->VK->Prop):Prop :=
 ∀ (b:List (Addr × Obj)) (s:Shared) (c:St) (H:Hp) (x:V) (d:List V) (v:Value) (e:WP) (Q:VK),Inv a b c H s->RelV x v->cK d e->r x d H Q->
  wpAny (model a.prog a.w) a.A (call (.builtin f) (v::e)) (EP a b c Q) a.xe s
def cK.one{x:V}{a:WP}(h:cK [x] a):∃ u,a=[u]/\RelV x u:=by
 cases h with
 | cons r t=>cases t;exact⟨Y,r⟩
def cK.two{x y:V}{a:WP}(h:cK [x,y] a):∃ u v,a=[u,v]/\RelV x u/\RelV y v:=by
 cases h with
 | cons r t =>
  let⟨_,rfl,q⟩:=cK.one t;exact⟨E,1,r,q⟩
theorem cK.zero:∀ {a:WP},cK [] a->a=[]
 | _,.nil=>rfl
def cK.dropLast{a:List V}{b:WP}(h:cK a b):cK a.dropLast b.dropLast:=by
 induction h with
 | nil=>exact .nil
 | cons r t c =>
  cases t with
  | nil=>exact .nil
  | cons q d=>exact .cons r c
theorem cK.eraseIdx:∀ {a:List V} {b:WP} (i:Nat),cK a b->cK (a.eraseIdx i) (b.eraseIdx i)
 | _,_,_,.nil=>.nil
 | _,_,0,.cons _ t=>t
 | _,_,i+1,.cons r t=>.cons r (cK.eraseIdx i t)
theorem cK.rep{a:List V}{b:WP}(h:cK a b):∀ k:Nat,cK (List.replicate k a).flatten (List.replicate k b).flatten
 | 0=>.nil
 | k+1=>by
  rw[List.replicate_succ,List.replicate_succ,List.flatten_cons,List.flatten_cons];exact cK.append h (cK.rep h k)
def Jb{c:Type}(l:List c):l.eraseIdx (↑l-1)=l.dropLast:=by
 induction l with
 | nil=>rfl
 | cons a r d =>
  cases r with
  | nil=>rfl
  | cons b r =>
   let e:↑(a::b::r)-1=(↑(b::r)-1)+1:=by
    let f:↑(a::b::r)=↑r+2:=rfl;let f:↑(b::r)=↑r+1:=rfl;lia
   rw[e,List.eraseIdx_cons_succ,d]
   all_goals rfl
theorem Cm{a:Type}:∀ (l:List a) (i:Nat),↑(l.eraseIdx i)<=↑l
 | [],_=>fF _
 | _::_,0=>Nat.le_succ _
 | _::r,i+1=>Nat.succ_le_succ (Cm r i)
theorem foldl_rep(a:WP):∀ (k:Nat) (b:WP),
  List.foldl (λc d=>c++d) b.toArray (List.replicate k a.toArray)=(b++(List.replicate k a).flatten).toArray
 | 0,b=>by simp
 | k+1,b=>by
  let e:b.toArray++a.toArray=(b++a).toArray:=by simp
  let f:(b++a)++(List.replicate k a).flatten=b++(List.replicate (k+1) a).flatten:=by
   rw[List.replicate_succ,List.flatten_cons,j4]
  rw[← f,← foldl_rep a k (b++a),← e,List.replicate_succ,j5]
section
variable {X:Cx} {ay:List (Addr × Obj)} {σ:St} {H:Hp} {s:Shared} {l b:Addr} {xs ys zs:List V}
theorem Inv.O0{c a:WP}{n:Nat}{f:Array Value->Xt}{d:Nat}(I:Inv X ay σ H s)(e:H l=⇑(.lst xs))
  (g:s.heap.get? l=some { cls:=.type "h",data:=.seq c.toArray n }) (h:f c.toArray=a.toArray) (i:cK ys a) (j:↑ys<=sizeLine) :
  Inv X ay σ (aO H l (.lst ys)) { s with heap:=s.heap.update l (Obj.mapSeq f),toks:=d }:=by
 let q:=PySem.IsL.update g f;rw[h]at q;refine I.write (x:=l) (e:=l) (by rw[e];exact trivial) (.inl rfl) (λm u b k=>(Heap.get?_update_other s.heap (Obj.mapSeq f) (Ne.symm b)).trans k) ⟨_,q⟩ ?_;exact⟨j,a,_,i,q⟩
theorem Inv.Td{a:WP}{c:Nat}(I:Inv X ay σ H s)(d:cK ys a)(e:↑ys<=sizeLine) :
  Inv X ay σ (aO H s⁻¹ (.lst ys)) { s with heap:=s.heap.push { cls:=.type "h",data:=.seq a.toArray },toks:=c } :=
 I.laid (λ_ _ q=>Heap.get?_push_of_some _ q) (fF _) ⟨e,a,0,d,Heap.get?_push_size _ rfl⟩
theorem Inv.fresh(I:Inv X ay σ H s):H s⁻¹=none:=I.hok.fresh (fF _)
def Inv.zj(I:Inv X ay σ H s)(c:H l=⇑(.lst xs)):↑xs<=sizeLine/\∃ (a:WP) (n:Nat),cK xs a/\↑xs=↑a/\s.heap.get? l=some { cls:=.type "h",data:=.seq a.toArray n }:=by
 let⟨z,a,n,r,e⟩:=I.hok l _ c;exact⟨z,a,n,r,↑r,e⟩
def zk{n:Nat}(h:n<=sizeLine):Builtin.List.listTooLong n=false:=by
 unfold Builtin.List.listTooLong;exact decide_eq_false ∅
end
section
variable {X:Cx}
inductive Te(x:V)(vs:List V)(H:Hp)(Q:VK):Prop
 | mk (l:Addr) (a:List V) (y:V) (_:x=↥l) (_:vs=[y]) (_:H l=⇑(.lst a)) (_:↑a<sizeLine) (_:Q .gc (aO H l (.lst (a++[y]))))
def bX:VP X "list.append" Te:=by
 intro d s e H x f v g Q I b c h;let⟨l,i,y,rfl,rfl,a,d,q⟩:=h;cases b;let⟨u,rfl,d⟩:=c.one;let⟨z,b,n,r,c,e⟩:=I.zj a;refine call_meets F.slot_list_append ⟨_,e,1⟩ F.entry_list_append (F.args_list_append_2 _ _) (PySem.list_append l b.toArray n u (by rw[iF];lia)) ⟨e,?_⟩;refine⟨.gc,_,I.O0 (a:=b++[u]) a e (by simp) (r.append (.cons d .nil)) ?_,1,q⟩;rw[cY,iA];lia
inductive Tf(x:V)(vs:List V)(H:Hp)(Q:VK):Prop
 | mk (l b:Addr) (a c:List V) (_:x=↥l) (_:vs=[↥b]) (_:H l=⇑(.lst a)) (_:H b=⇑(.lst c)) (_:↑a+↑c<=sizeLine) (_:Q .gc (aO H l (.lst (a++c))))
def jC:VP X "list.extend" Tf:=by
 intro g s i H x j v k Q I a b h;let⟨l,d,m,n,rfl,rfl,c,f,g,q⟩:=h;cases a;let⟨u,rfl,e⟩:=b.one;cases e;let⟨z,a,n,r,b,e⟩:=I.zj c;let⟨j,b,g,h,k,i⟩:=I.zj f;let f:a.toArray.size+b.toArray.size<=sizeLine:=by rw[iF,iF];lia
 let j:¬ (!a.toArray.isEmpty&&Builtin.List.listTooLong (a.toArray.size+b.toArray.size))=true:=by
  rw[zk f,Bool.and_false];exact gP
 refine call_meets F.slot_list_extend ⟨_,e,1⟩ F.entry_list_extend (F.args_list_extend_2 _ _) (AutoSeq1.list_extend_list_list_0 l a.toArray n d b.toArray g j (by rw[iF];lia) ∅) ⟨e,i,?_⟩;refine⟨.gc,_,I.O0 (a:=a++b) c e (by simp) (r.append h) ?_,1,q⟩;rw[cY];lia
def sG:V->List V->Hp->VK->Prop:=λx b H Q=>∃ l a y,x=↥l/\b=[]/\H l=⇑(.lst a)/\a[↑a-1]?=⇑y/\Q y (aO H l (.lst a.dropLast))
def O1:VP X "list.pop" sG:=by
 intro f s g H x i v j Q I a c h;let⟨l,k,y,rfl,rfl,b,d,q⟩:=h;cases a;let e:=c.zero;subst e;let⟨z,a,n,r,c,e⟩:=I.zj b;let⟨u,f,g⟩:=r.get d
 let d:a.toArray[a.toArray.size-1]?=⇑u:=by
  show a.toArray[↑a-1]?=⇑u;rw[← Array.getElem?_toList,← c];exact f
 refine call_meets F.slot_list_pop ⟨_,e,1⟩ F.entry_list_pop (F.args_list_pop_1 _) (MeetsSeq.list_pop_last l a.toArray n u d (by rw[iF];lia)) ⟨e,?_⟩;refine⟨y,_,I.O0 (a:=a.dropLast) b e ?_ r.dropLast ?_,g,q⟩
 ·show a.toArray.eraseIdxIfInBounds (a.toArray.size-1)=a.dropLast.toArray;rw[iF,List.eraseIdxIfInBounds_toArray,Jb]
 ·rw[List.length_dropLast];lia
def XE:V->List V->Hp->VK->Prop:=λx b H Q=>∃ l a i k y,x=↥l/\b=[.int i]/\H l=⇑(.lst a)/\-(2^63)<=i/\i<2^63/\seqIndex? i ↑a=⇑k/\a[k]?=⇑y/\Q y (aO H l (.lst (a.eraseIdx k)))
def O2:VP X "list.pop" XE:=by
 intro n s o H x p v r Q I a c h;let⟨l,d,i,k,y,rfl,rfl,b,f,g,j,m,q⟩:=h;cases a;let⟨u,rfl,e⟩:=c.one;let⟨t,rfl⟩:=e;let⟨z,a,n,r,c,e⟩:=I.zj b;let⟨w,h,o⟩:=r.get m;refine call_meets F.slot_list_pop ⟨_,e,1⟩ F.entry_list_pop (F.args_list_pop_2 _ _) (MeetsSeq.list_pop_at l a.toArray n i t k w (fitsIndex_both f g) (by rw[iF,← c];exact j) (by rw[← Array.getElem?_toList];exact h) (by rw[iF];lia)) ⟨e,?_⟩;refine⟨y,_,I.O0 (a:=a.eraseIdx k) b e ?_ (r.eraseIdx k) ?_,o,q⟩
 ·show a.toArray.eraseIdxIfInBounds k=(a.eraseIdx k).toArray;rw[List.eraseIdxIfInBounds_toArray]
 ·have:=Cm d k;lia
inductive im(x y:V)(H:Hp)(Q:VK):Prop
 | mk (l b:Addr) (a c:List V) (_:x=↥l) (_:y=↥b) (_:H l=⇑(.lst a)) (_:H b=⇑(.lst c)) (_:↑a+↑c<=sizeLine) (_:∀ p,H p=none->Q ↥p (aO H p (.lst (a++c))))
def iZ:tV X (binaryOp .Add) im:=by
 intro e s f H x y v u Q I a b h;let⟨l,g,i,j,rfl,rfl,c,d,e,q⟩:=h;cases a;cases b;let⟨z,a,n,r,b,e⟩:=I.zj c;let⟨g,b,h,c,i,f⟩:=I.zj d;refine PySem.P.add_list e f ?_ (by rw[iF,iF];lia);let d:a.toArray++b.toArray=(a++b).toArray:=by simp
 rw[d];exact⟨↥_,_,I.Td (c:=s.toks) (r.append c) (by rw[cY];lia),1,q _ I.fresh⟩
def io:R2:=λx y H Q=>∃ l k a,x=↥l/\y=.int k/\H l=⇑(.lst a)/\-(2^63)<=k/\k<2^63/\↑a*k.toNat<=sizeLine/\
 ∀ p,H p=none->Q ↥p (aO H p (.lst (List.replicate k.toNat a).flatten))
def Tg{b:Type}(a:List b)(k:Nat):(List.replicate k a).flatten.length=k*↑a:=by
 induction k with
 | zero=>simp
 | succ k c=>rw[List.replicate_succ,List.flatten_cons,cY,c,Nat.succ_mul,Nat.add_comm]
def O5:tV X (binaryOp .Mult) io:=by
 intro m s w H x y z A Q I c d h;let⟨l,k,B,rfl,rfl,g,i,j,f,q⟩:=h;cases c;let⟨t,rfl⟩:=d;let⟨z,b,n,r,c,e⟩:=I.zj g;let d:b.toArray.size*k.toNat<=sizeLine:=by rw[iF,← c];exact f
 let o:¬ b.toArray.size*k.toNat > (2^63-1) / 8:=by
  have:(sizeLine:Nat)<=(2^63-1) / 8:=by decide
  lia
 let p:¬ (!Builtin.List.listFitsIndex k)=true:=by
  rw[fitsIndex_both i j];exact gP
 let u:¬ Builtin.List.listTooLong (b.toArray.size*k.toNat)=true:=by
  rw[zk d];exact gP
 let v:List.foldl (λc d=>c++d) #[] (List.replicate (if b.toArray.isEmpty=true then 0 else k.toNat) b.toArray)=(List.replicate k.toNat b).flatten.toArray:=by
  let g:∀ m:Nat,List.foldl (λc d=>c++d) #[] (List.replicate m b.toArray)=(List.replicate m b).flatten.toArray:=λm=>by
   have:=foldl_rep b m [];rw[List.nil_append]at this;exact this
  rw[g]
  cases b with
  | nil=>simp
  | cons a c=>rw[if_neg (by simp)]
 refine wpAny_binaryOp_repeat_ref (T:="h") (U:="int") (by decide) ⟨_,e,1⟩ (λc=>typeIs_int c k t) noFill_list_mul F.fills_int_mul F.slot_int_rmul repeat_list F.slot_int_index.lookup (call_meets F.slot_int_rmul (typeIs_int s k t) F.entry_int_rmul (F.args_int_rmul_2 _ _) (int___rmul___int_list k t l b.toArray n) ⟨e,1,⟨_,e,1⟩,call_meets F.slot_list_mul ⟨_,e,1⟩ F.entry_list_mul (F.args_list_mul_2 _ _) (AutoListH.list___mul___list_int_3 l b.toArray n k t p o u) ⟨e,?_⟩⟩);rw[v];exact⟨↥_,_,I.Td (c:=s.toks) (r.rep k.toNat) (by rw[Tg,Nat.mul_comm];exact f),1,q _ I.fresh⟩
end
end _L2
namespace _ip
open PySem.W Calls Rows
def yu{P:Params}{h:Heap}:∀ (c:Wp) (d:WP),WellAll P h d (c.map WData.int)->IntsAre d c:=by
 intro c
 induction c with
 | nil =>
  intro d w;rw[List.map_nil]at w;cases w;exact .nil
 | cons n c e =>
  intro d w;rw[iu]at w
  cases w with
  | cons a b =>
   cases a;exact .cons _ _ (e _ b)
theorem MJ{l:OpenLaw}{n:Nat}(j:l.most=⇑n){P:Params}{h:Heap}{args:List WData}{d:WP}
  (e:l.row.toRowW.claim.pre args=true) (k:WellAll P h d args) :
  ∃ f g a,d=[Value.ref f]/\args=[WData.list (a.map WData.int)]/\h.get? f=some { cls:=.type "h",data:=.seq g.toArray }/\IntsAre g a/\↑a<=n:=by
 let b:WShape.hasAll [] args [.list .int]=true:=(pre_splitW e).1;let i:l.pre.holds [] { args:=args }=true:=(pre_splitW e).2;let⟨s,t,rfl,m,o⟩:=hasAllW_cons b;obtain rfl:=hasAllW_nil o;let⟨u,rfl,p⟩:=hasW_list m;let⟨a,rfl⟩:=items_int p
 let q:↑a<=n:=by
  unfold OpenLaw.pre at i
  let b:(WTm.not (.lt (.lit (.int (n:Int))) (.len (.arg 0)))).holds [] { args:=[.list (a.map .int)] }=true:=by
   let b:=(holds_andW i).1;rw[j]at b;exact b
  let c:=condW_of b (w_not (w_lt w_lit (w_len_list (w_arg rfl))));rw[b8]at c;refine Nat.le_of_not_lt λb=>?_;have b:(n:Int)<((↑a:Nat):Int):=by lia
  first
   | (rw[decide_eq_true b]at c;exact absurd c (by decide))
   | (simp at c;lia)
 cases k with
 | cons c r =>
  cases r
  cases c with
  | list ho b=>exact⟨E,a,V,ho,yu a _ b,q⟩
theorem MK(l:OpenLaw)(args:List WData):l.row.toRowW.claim.post args (.bool true) args=true :=
 postW_of (r:=l.row.toRowW) (X:=(true == true))
  (show WShape.has [] (.bool true) .bool=true by first|rfl|decide|simp[WShape.has,WShape.arms,WShape.armsAll])
  (show (WTm.eq .res (.lit (.bool true))).value [] { args:=args,res:=⇑(.bool true),after:=args }=⇑(.bool (true == true)) from w_eq_bool (w_res rfl) w_lit) rfl
theorem FN{l:OpenLaw}{p:Nat}{q:Program}{r:UV}{t:(Ya)->Heap->Prop}{u:World->Heap->Prop}{d:DefRec}
  (x:l.most=⇑p) (y:d.params.defaults=[])
  (z:∀ (w:World) (j a:Shared) (e k:Ya) (c:Addr) (o:Obj) (m f n:Value) (g:Addr) (b:WP) (h:Wp),
   Ground q r [] t w j e k a.heap->u w a.heap->
   a.heap.get? c=⇑o->o.data=.func (docDef d.name d.params d.body d.scope m f n)->a.heap.CodeRec f d.name->e d.name=⇑↥c->
   a.heap.get? g=some { cls:=.type "h",data:=.seq b.toArray }->IntsAre b h->↑h<=p->a.gens=#[]->
   codeAny (model l.prog w) callerA (.call ↥c ⟨[↥g],[]⟩) (λv i=>v=.ok (.ret (.bool true))/\OldK a.heap i.heap/\i.os=a.os/\AllBare i.gens) a) :
  WalkO q r t u l.row.toRowW d [] (λA b=>PySem.call A b):=by
 intro w j a e k G Y c o m f n B kV C D F s H I args M T J U W L X;obtain rfl:B=.none:=Dflts.none s y;obtain rfl:kV=.none:=Dflts.noKw s;let⟨g,b,h,rfl,rfl,s,B,M⟩:=MJ x J L;refine enter_call (codeAny_mono (z w j a e k c o m f n g b h G Y C (fd_plain D) F H s B M I) λv i N=>?_);let⟨rfl,O,R,S⟩:=N;exact⟨.inl ⟨.bool true,.bool true,[],1,λ_=>rfl,.bool true,MK l _,λ_=>⟨List.Pairwise.nil,λ_ s=>(nomatch s)⟩⟩,O,R,S⟩
end _ip
namespace _L2
open Spec Rows
theorem Co:∀ {a:WP} {ns:Wp},IntsAre a ns->cK (ns.map V.int) a
 | _,_,.nil=>.nil
 | _,_,.cons n t h=>.cons ⟨t,1⟩ (Co h)
def XH(H:Hp):Prop:=∀ b,H b=none\/∃ o a,H b=⇑(.KS o (.lst a))
theorem O8{P:Program}{w:World}{K:Frag}{h v:Ya}{C:ME}{D:Nat}{y c:Addr}{G:FuncData}{x:Str}{I:Sp}{a:Shared}{g:WP}{i:Wp}
  (J:K.In a.heap) (L:a.heap.Ns mainGlobals h) (d:a.heap.Ns builtinsNs v) (ab:∀ x:Str,x≠"X"->v x=bootBuiltins x) (ae:a.heap.NoLimit) (hg:a.gens=#[])
  (n:a.heap.get? c=some { cls:=.type "h",data:=.seq g.toArray }) (M:IntsAre g i) (N:↑i<=sizeLine) (hr:jr D callerA)
  (ag:∀ A:Heap,K.In A->A.Ns mainGlobals h->aZ P w K h A C D y G [x] I) (ai:∀ (s:Shared) (u:Value),BindsTo s G ⟨[u],[]⟩ [(x,u)])
  (MH:∀ H:Hp,XH H->bJ K H c (i.map V.int)->I [↥c] H (λB _=>B=.bl true) λ_ _ _=>False)
  (ak:∀ H e f,C [] H a (λ_ _ _=>False) e f->False) :
  codeAny (model P w) callerA (.call ↥y ⟨[↥c],[]⟩) (λr f=>r=.ok (.ret (.bool true))/\OldK a.heap f.heap/\f.os=a.os/\AllBare f.gens) a:=by
 let F:=Co M;let am:=↑M
 let O:∀ H:Hp,XH H->bJ K H c (i.map V.int)->uK P w H a.heap->(∀ b,H b≠none->b=c)->(H c≠none->K.lookup c=none)->
   codeAny (model P w) callerA (.call ↥y ⟨[↥c],[]⟩) (λr f=>r=.ok (.ret (.bool true))/\OldK a.heap f.heap/\f.os=a.os/\AllBare f.gens) a:=by
  intro H R hS S T hK;let U:∀ {b:Addr} {o:Obj},a.heap.get? b=⇑o->H b=none->(Dy a.heap H).get? b=⇑o:=λe an=>Oz e an
  let ap:∀ {b:Addr} {o:Obj} {j:Array DictEntry} {k:Nat},a.heap.get? b=⇑o->o.data=.dict j k->H b=none:=λ{b o j k} e p=>by
   cases q:H b with
   | none=>rfl
   | some u =>
    let l:b=c:=T b (by rw[q];simp);subst l;rw[n]at e;cases e;let t:Data.seq g.toArray _=Data.dict j k:=p;cases t
  let t:∀ {b:Addr} {m:Ya},a.heap.Ns b m->(Dy a.heap H).Ns b m:=λ{b m} ⟨o,j,k,e,p,r⟩=>⟨o,j,k,U e (ap e p),p,r⟩
  let W:K.In (Dy a.heap H):=λb o e=>U (J b o e) (by
   cases q:H b with
   | none=>rfl
   | some u =>
    let l:b=c:=T b (by rw[q];simp);subst l
    rw[hK (by rw[q];simp)]at e;cases e)
  let j:Mod K h (Dy a.heap H):=⟨W,t L,⟨v,t d,ab⟩,let ⟨k,p,T⟩:=ae;⟨k,t p,T⟩⟩;let e0:IW P w K h (Dy a.heap H) callerA [] a H:=⟨1,j,λb o e=>SH e,Nat.le_of_eq (Mt _ _),trivial,λb d=>absurd (show b∈([]:WF) from d) (by simp),S,.of_eq hg⟩;refine codeAny_mono ((ag _ W (t L)).run callerA [] a H ⟨[↥c],[]⟩ [↥c] [↥c] _ _ hr e0 (ai a ↥c) (.cons rfl .nil) (MH H R hS)) λr f l=>?_
  cases r with
  | error e=>exact (ak H e f l).elim
  | ok fl =>
   cases fl with
   | next=>exact False.elim l
   | brk=>exact False.elim l
   | cont=>exact False.elim l
   | ret u =>
    let⟨B,j,os,aq,X,ar,r',q⟩:=l;let q':B=.bl true:=q;subst q';obtain rfl:u=Value.bool true:=r';refine⟨1,OldK.of_keep λb o e=>?_,os,aq⟩
    cases q:H b with
    | none=>exact X.keep b o e q (by intro z;exact absurd (show b∈([]:WF) from z) (by simp)) (by simp)
    | some u =>
     rcases R b with z|⟨ob,j,z⟩
     ·rw[q]at z;cases z
     ·let j:=X.Dw b ob _ z;let⟨e1,_⟩:=S b _ z;let⟨e2,_⟩:=ar b _ j;rw[e]at e1;cases e1;exact e2
 cases k:K.lookup c with
 | some o =>
  let e:=J c o k;rw[n]at e;cases e;refine O (λ_=>none) (λ_=>.inl rfl) (.inr ⟨_,g.toArray,_,k,V,1,by rw[iF,am];exact N,by simpa using F⟩) (λb u z=>by let j:(none:Option HO)=⇑u:=z;cases j) (λb z=>absurd rfl z) λz=>absurd rfl z
 | none =>
  refine O (λb=>if b=c then some (.KS { cls:=.type "h",data:=.seq g.toArray } (.lst (i.map V.int))) else none) (λb=>?_) (.inl (.inr ⟨{ cls:=.type "h",data:=.seq g.toArray },if_pos rfl⟩)) (λb u z=>?_) (λb z=>?_) λ_=>k
  ·by_cases d:b=c
   ·exact .inr ⟨E,if_pos d⟩
   ·exact .inl (if_neg d)
  ·by_cases d:b=c
   ·let j:=(if_pos d).symm.trans z;cases j;subst d;exact⟨n,by rw[b8];exact N,g,_,F,n⟩
   ·let j:=(if_neg d).symm.trans z;cases j
  ·by_cases d:b=c
   ·exact d
   ·exact absurd (if_neg d) z
end _L2
namespace _L2
open Spec Rows
theorem Ti{l:PySem.W.OpenLaw}{n k:Nat}{v:Program}{y:UV}{z:(Ya)->Heap->Prop}{m:World->Heap->Prop}{e:DefRec}{K:Params->Frag}{o:World->ME}{p:World->Sp}{x:Str}
  (A:l.most=⇑n) (B:n<=sizeLine) (C:e.params.defaults=[]) (D:jr k callerA)
  (I:∀ (w:World) (h:Heap),m w h->(K w.params).In h)
  (J:∀ (w:World) (a:Ya) (b:Addr) (h:Heap),(K w.params).In h->h.Ns mainGlobals a->a e.name=⇑↥b->
   ∃ f:FuncData,(∀ (s:Shared) (u:Value),BindsTo s f ⟨[u],[]⟩ [(x,u)])/\
    ∀ g:Heap,(K w.params).In g->g.Ns mainGlobals a->aZ l.prog w (K w.params) a g (o w) k b f [x] (p w))
  (L:∀ (w:World) (H:Hp) (c:Addr) (d:Wp),↑d<=n->XH H->bJ (K w.params) H c (d.map V.int)->p w [↥c] H (λM _=>M=.bl true) λ_ _ _=>False)
  (N:∀ (w:World) (H:Hp) (s:Shared) (i:Value) (j:Shared),o w [] H s (λ_ _ _=>False) i j->False) :
  PySem.W.WalkO v y z m l.row.toRowW e [] (λO q=>PySem.call O q):=by
 refine _ip.FN A C λw t F a W b X pm cd xM c q d G Y ho hd OC R S T r U=>?_;have t:=I w _ Y;let⟨f,W,X⟩:=J w a b _ t G.T.g R;exact O8 t G.T.g G.T.b G.T.builtins G.T.nolimit U S T (iG r B) D X W (λH t G=>L w H c d r t G) λH i j=>N w H F i j
end _L2
namespace _L2
open Spec Rows
def nI(s:Stmt):Arguments:=match s with
 | .FunctionDef _ a _ _ _ _ _ _ _ _=>a
 | _=>{ posonlyargs:=[],args:=[],vararg:=none,kwonlyargs:=[],kw_defaults:=[],kwarg:=none,defaults:=[] }
def jI(s:Stmt):List Stmt:=match s with
 | .FunctionDef _ _ b _ _ _ _ _ _ _=>b
 | _=>[]
def b9(s:Stmt):Scope:=match s with
 | .FunctionDef _ _ _ _ _ _ a _ _ _=>a
 | _=>{ kind:=.function,names:=[],isGenerator:=false,isCoroutine:=false }
abbrev cQ:ME:=λ_ _ _ _ _ _=>False
abbrev E0:XK:=λ_ _ _=>False
theorem bH{a:Cx}:nV cQ a E0:=λ_ _ _ _ _ _ _ h=>h.elim
structure O9(K:Frag)(x fV:Str)(st:Stmt)(f:Addr)(fd:FuncData):Prop where
 ex:∃ (oc:Value) (od:Option Addr) (kV xM pm:Value) (an:Option Addr) (dc ct:Value) (Oe:Array (XB)),
  fd=fnOf x fV (nI st) (jI st) (b9 st) .none kV xM pm an dc ct/\K.lookup f=some ⟨oc,od,.func fd,Oe⟩/\codeIn K dc fV=true
 kp:keepIn K ↥f=true
section
variable {P:Program} {w:World} {K:Frag} {mg:Ya} {zt:Heap}
theorem O9.ok{x d:Str}{b:Stmt}{f:Addr}{N e:UV}{k:Nat}{g:Sp}(i:O9 K x d b f j)(l:rC N e (b9 b))(m:∀ a H Q E,g a H Q E->↑a=↑e)
  (n:∀ (c:Value) (A:Around) (h:List Env) (s:Shared) (H:Hp) (a:List V) (Q:VK) (E:XK),jr k (A.deeper (envOfC d (b9 b) s⁻¹ f c))->g a H Q E->
   ∃ t,KZ (DG cQ P w K mg zt N d (b9 b) f c A h s H E).K0 (jI b) t/\t { nx:=λ_ o=>Q .gc o,rt:=Q } (start N a) H):aZ P w K mg zt cQ (k+1) f j e g:=by
 let⟨q,r,kV,u,v,y,c,z,B,rfl,lk,p⟩:=i.ex;refine rX lk p l m λA h s H a Q E p q=>?_;let⟨t,r,u⟩:=n c A h s H a Q E p q;exact⟨t,r.K0,u⟩
theorem O9.binds{x i:Str}{a:Stmt}{j:Addr}{b:UV}(k:O9 K x i a j l)
  (m:∀ (kV c d:Value) (e:Option Addr) (f g:Value) (h:WP),↑h=↑b->bindArgs (fnOf x i (nI a) (jI a) (b9 a) .none kV c d e f g) ⟨h,[]⟩=pure (b.zip h)):Binds K l b []:=by
 let⟨n,o,kV,c,d,e,f,g,p,rfl,lk,q⟩:=k.ex;exact .all (m kV c d e f g)
theorem Jc{x b:Str}{a:Stmt}{f:Addr}{i:Value}{j d:Option Addr}{k:Array (XB)}{kV e g c h:Value}(l:K.lookup f=some ⟨i,j,.func (fnOf x b (nI a) (jI a) (b9 a) .none kV e g d c h),k⟩)
  (m:codeIn K c b=true) (n:keepIn K ↥f=true):O9 K x b a f (fnOf x b (nI a) (jI a) (b9 a) .none kV e g d c h):=⟨⟨i,j,kV,e,g,d,c,h,k,1,l,m⟩,n⟩
end
theorem gM{A:Around}{k:Nat}(a:jr k A):A.units+1<cLine:=Nat.lt_of_le_of_lt (Nat.add_le_add_left (by decide:1<=64) _) a.units
section
variable {X:Cx}
theorem pv(i:Nat){x:Str}{a:Pos}(b:X.N[i]?=⇑x:=by rfl)(c:ew X.env.scope x:=by and_intros)(d:(x == ("u":Str))=false:=by decide)
  (e:(x == ("__classdict__":Str))=false:=by decide):PE X (.Name x a) (SJ i):=Xe b c d e
end
def fT{A B:Prop}(h:B):if false=true then A else B:=by
 rw[if_neg gP];exact h
def iK{A B:Prop}(h:A):if true=true then A else B:=by
 rw[if_pos rfl];exact h
def dO{c A B:Prop} [Decidable c] (a:c->A) (b:¬ c->B):if c then A else B:=by
 by_cases h:c
 ·rw[if_pos h];exact a h
 ·rw[if_neg h];exact b h
def Pa{c A B:Prop} [Decidable c] (a:c) (h:B):if (!decide c)=true then A else B:=by
 rw[decide_eq_true a];exact fT h
def aJ(H a:Hp):Prop:=∀ b o,H b=⇑o->a b=⇑o
theorem aJ.refl(H:Hp):aJ H H:=λ_ _ h=>h
theorem aJ.trans{H a b:Hp}(d:aJ H a)(e:aJ a b):aJ H b:=λc o h=>e c o (d c o h)
def aJ.free{H a:Hp}(e:aJ H a){l:Addr}(h:a l=Option.none):H l=Option.none:=by
 cases q:H l with
 | none=>rfl
 | some o =>
  rw[e l o q]at h;cases h
end _L2
namespace _gE
open _L2
def top(i:Nat):Stmt:=PySem.Challenge.pw_inkroot_k56_whole_dues.main.body.getD i (.Pass ⟨0,0,0,0⟩)
def Tj:Stmt->List Stmt
 | .ClassDef (body:=b) ..=>b
 | _=>[]
def fm(i j:Nat):Stmt:=(Tj (top i)).getD j (.Pass ⟨0,0,0,0⟩)
inductive DI(K:Frag)(x:Str)(st:Stmt)(f:Addr):Prop
 | mk {b:Value} {c d:Option Addr} {e:Array (XB)} {kV g h a i:Value} (_:nsIn K mainGlobals x=⇑(⇑↥f)) (_:K.lookup f=some ⟨b,c,.func (fnOf x x (nI st) (jI st) (b9 st) .none kV g h d a i),e⟩) (_:codeIn K a x=true) (_:keepIn K ↥f=true)
inductive MI(K:Frag)(C:Addr)(x fV:Str)(st:Stmt)(f:Addr):Prop
 | mk {b:Value} {c d:Option Addr} {e:Array (XB)} {kV g h a i:Value} (_:findIn K ↥C x=⇑(⇑↥f)) (_:isFn K ↥f=true) (_:K.lookup f=some ⟨b,c,.func (fnOf x fV (nI st) (jI st) (b9 st) .none kV g h d a i),e⟩) (_:codeIn K a fV=true) (_:keepIn K ↥f=true)
inductive CI(K:Frag)(x:Str)(C:Addr):Prop
 | mk (_:nsIn K mainGlobals x=⇑(⇑↥C)) (_:plainGet K C Str.empty=true) (_:hasDictIn K C=true) (_:plainOver K C=true) (_:findIn K ↥C "__setattr__"=⇑(⇑(.builtin "object.__setattr__"))) (_:makesIn K C=true) (_:keepIn K ↥C=true)
class inductive FO(K:Frag)
 | mk (a:Addr) (b:Wp) (_:vs=[↥a]) (_:bJ K H a (b.map V.int)) (_:↑b<=63) (_: ∀ c,Q (.bl true) c)
abbrev Cp:Stmt:=top 70
abbrev zl:Stmt:=top 71
abbrev xP:Stmt:=top 72
abbrev tX:Stmt:=top 73
abbrev Pb:Stmt:=top 12
abbrev Pc:Stmt:=top 13
abbrev sJ:Stmt:=top 15
abbrev Lo:Stmt:=top 16
abbrev VQ:Stmt:=top 17
abbrev tY:Stmt:=top 18
abbrev Lp:Stmt:=top 21
abbrev pJ:Stmt:=top 23
abbrev Lq:Stmt:=top 24
abbrev zm:Stmt:=top 25
abbrev zo:Stmt:=top 26
abbrev pK:Stmt:=fm 28 0
abbrev xQ:Stmt:=fm 28 1
abbrev xR:Stmt:=fm 28 2
abbrev uT:Stmt:=fm 28 3
abbrev zq:Stmt:=fm 28 4
abbrev zu:Stmt:=top 32
abbrev Jd:Stmt:=top 33
abbrev uU:Stmt:=top 40
abbrev VR:Stmt:=top 41
abbrev uV:Stmt:=top 38
abbrev mU:Stmt:=top 39
abbrev Cq:Stmt:=top 34
abbrev o7:Stmt:=top 35
abbrev Pd:Stmt:=top 36
abbrev FP:Stmt:=top 43
abbrev uW:Stmt:=top 44
abbrev Je:Stmt:=top 45
abbrev Pe:Stmt:=top 46
abbrev zw:Stmt:=top 47
abbrev zx:Stmt:=top 49
abbrev Lr:Stmt:=top 48
abbrev zy:Stmt:=top 50
abbrev uX:Stmt:=top 51
abbrev uY:Stmt:=top 52
abbrev tZ:Stmt:=top 54
abbrev xS:Stmt:=top 55
abbrev FQ:Stmt:=top 57
abbrev pM:Stmt:=fm 58 0
abbrev zz:Stmt:=fm 58 3
abbrev xT:Stmt:=fm 58 2
abbrev xU:Stmt:=fm 58 1
abbrev mW:Stmt:=fm 58 4
abbrev lN:Stmt:=fm 58 5
abbrev zA:Stmt:=fm 58 7
abbrev j8:Stmt:=fm 58 10
abbrev xV:Stmt:=fm 58 9
abbrev qG:Stmt:=fm 60 0
abbrev qH:Stmt:=fm 30 0
abbrev Cr:Stmt:=fm 30 2
abbrev Cs:Stmt:=fm 30 1
abbrev xW:Stmt:=fm 30 3
abbrev qI:Stmt:=fm 62 0
abbrev zB:Stmt:=fm 62 2
abbrev zC:Stmt:=fm 62 1
abbrev qJ:Stmt:=fm 62 6
abbrev uZ:Stmt:=top 67
abbrev qK:Stmt:=fm 68 1
abbrev sL:Stmt:=fm 68 26
abbrev u9:Stmt:=fm 68 25
abbrev pN:Stmt:=fm 68 2
abbrev qL:Stmt:=fm 68 3
abbrev qM:Stmt:=fm 68 7
abbrev qN:Stmt:=fm 68 30
abbrev sM:Stmt:=fm 68 6
abbrev vc:Stmt:=fm 68 27
abbrev lO:Stmt:=fm 68 4
abbrev vd:Stmt:=fm 68 8
abbrev nJ:Stmt:=fm 68 0
abbrev ve:Stmt:=fm 68 9
abbrev qO:Stmt:=fm 68 11
abbrev vf:Stmt:=fm 68 28
abbrev pO:Stmt:=fm 68 12
abbrev vg:Stmt:=fm 68 13
abbrev sN:Stmt:=fm 68 10
abbrev lP:Stmt:=fm 62 5
abbrev zD:Stmt:=fm 62 3
abbrev lH:Stmt:=fm 68 23
abbrev sO:Stmt:=fm 68 32
abbrev zE:Stmt:=fm 62 4
abbrev mX:Stmt:=fm 68 24
abbrev vh:Stmt:=fm 62 8
abbrev mY:Stmt:=fm 68 5
abbrev sP:Stmt:=fm 68 17
abbrev sQ:Stmt:=fm 68 18
abbrev pP:Stmt:=fm 68 47
abbrev sR:Stmt:=fm 68 21
abbrev vj:Stmt:=fm 68 45
abbrev sS:Stmt:=fm 68 46
abbrev zF:Stmt:=top 92
abbrev t6:Stmt:=top 93
abbrev qP:Stmt:=top 81
abbrev zG:Stmt:=top 82
abbrev zH:Stmt:=top 83
abbrev xX:Stmt:=top 74
abbrev zI:Stmt:=top 76
abbrev sU:Stmt:=top 77
abbrev vm:Stmt:=top 78
abbrev Ct:Stmt:=top 79
abbrev Cu:Stmt:=top 80
abbrev sV:Stmt:=top 84
abbrev vo:Stmt:=top 75
abbrev t7:Stmt:=top 85
abbrev xY:Stmt:=top 86
abbrev sW:Stmt:=fm 68 14
abbrev zJ:Stmt:=top 87
abbrev sX:Stmt:=top 88
abbrev sY:Stmt:=top 89
abbrev zK:Stmt:=top 90
abbrev zL:Stmt:=top 91
abbrev ua:Stmt:=top 94
abbrev xZ:Stmt:=top 95
abbrev ya:Stmt:=top 96
abbrev zM:Stmt:=top 97
abbrev pA:Stmt:=top 98
abbrev kg:Stmt:=top 99
abbrev ML:Stmt:=top 100
end _gE
namespace _gE
open _L2
inductive Pm(K:Frag)(mg:Ya)(fa:Addr):Prop
 | mk {h:Heap} {g i j:Tok} (b c d f e a:Addr) (k:K.In h) (G:h.Ns mainGlobals mg) (l:mg "law"=⇑↥fa)
  (m:CI K "Shelf" b)
  (n:findIn K ↥b "D"=⇑none)
  (o:findIn K ↥b "z"=⇑none)
  (p:CI K "Well" c)
  (q:findIn K ↥c "K"=⇑none)
  (r:findIn K ↥c "O"=⇑none)
  (t:findIn K ↥c "Y"=⇑none)
  (u:CI K "Blots" d)
  (v:findIn K ↥d "stains"=⇑none)
  (w:CI K "Ties" f)
  (x:findIn K ↥f "given"=⇑none)
  (y:findIn K ↥f "pairs"=⇑none)
  (z:CI K "Dues" e)
  (A:findIn K ↥e "sums"=⇑none)
  (B:CI K "Library" a)
  (C:findIn K ↥a "E"=⇑none)
  (D:findIn K ↥a "B"=⇑none)
  (H:findIn K ↥a "H"=⇑none)
  (I:findIn K ↥a "R"=⇑none)
  (J:findIn K ↥a "dues"=⇑none)
  (L:findIn K ↥a "book"=⇑none)
  (M:DI K "_law_src" Cp f0)
  (N:DI K "_law_next" zl f1)
  (O:DI K "_law_whole" xP f2)
  (T:DI K "_law_same" tX f3)
  (U:DI K "plain" Pb f4)
  (q5:DI K "size" Pc f5)
  (q6:DI K "check_places" sJ f6)
  (q7:DI K "pieces" Lo f7)
  (q8:DI K "part" VQ f8)
  (q9:DI K "addresses" tY f9)
  (Cw:DI K "spread" Lp wE)
  (ab:DI K "first_reaching" pJ wP)
  (ae:DI K "within" Lq wS)
  (ag:DI K "left_over" zm wT)
  (ai:DI K "without" zo wU)
  (ak:MI K d "v" "Blots.__init__" pK w1)
  (am:MI K d "blot" "Blots.blot" xQ w2)
  (an:MI K d "lift" "Blots.lift" xR w4)
  (ap:MI K d "hides" "Blots.hides" uT w7)
  (aq:MI K d "j" "Blots.row" zq w8)
  (ar:DI K "windows" zu w')
  (as:DI K "below" Jd xa)
  (av:DI K "way_between" uU xb)
  (aw:DI K "ring" VR xc)
  (ax:DI K "item_weight" uV xf)
  (ay:DI K "weights_below" mU xl)
  (aA:DI K "item_row" Cq xn)
  (aH:DI K "views_below" o7 xp)
  (aS:DI K "shown" Pd sH)
  (a0:DI K "goes_on" FP xt)
  (a1:DI K "plain_items" uW xv)
  (a2:DI K "inked" Je xw)
  (a3:DI K "dealt" Pe f32)
  (a4:DI K "put_among" zw xz)
  (a5:DI K "put_items" zx xI)
  (a6:DI K "parted" Lr xL)
  (a7:DI K "cut_items" zy x')
  (a8:DI K "moved_items" uX ym)
  (a9:DI K "fixed_items" uY yn)
  (ba:DI K "ink_words" tZ yw)
  (bb:DI K "shown_deed" xS yy)
  (bc:DI K "changed" FQ yA)
  (be:MI K b "v" "Shelf.__init__" pM yB)
  (bi:MI K b "now" "Shelf.now" zz yI)
  (bj:MI K b "many" "Shelf.many" xT yX)
  (bm:MI K b "step" "Shelf.step" xU yY)
  (bn:MI K b "check_sheet" "Shelf.check_sheet" mW y2)
  (bo:MI K b "check_moment" "Shelf.check_moment" lN y3)
  (bp:MI K b "rows_then" "Shelf.rows_then" j8 y4)
  (br:MI K b "n" "Shelf.rows" xV y5)
  (bt:MI K b "j" "Shelf.row" zA y6)
  (bv:MI K f "v" "Ties.__init__" qG y7)
  (bA:MI K e "v" "Dues.__init__" qH y')
  (bB:MI K e "due" "Dues.due" Cr zg)
  (bC:MI K e "pay" "Dues.pay" Cs zp)
  (bF:MI K e "total" "Dues.total" xW zv)
  (bP:MI K c "v" "Well.__init__" qI zN)
  (bY:MI K c "size" "Well.size" zB z')
  (b0:MI K c "pour" "Well.pour" zC Ad)
  (b1:MI K c "holds" "Well.holds" qJ Ap)
  (b2:DI K "check_weave" uZ AT)
  (b3:MI K a "v" "Library.__init__" nJ A')
  (b4:MI K a "enter" "Library.enter" qK Bi)
  (b5:MI K a "change" "Library.change" pN Bj)
  (b6:MI K a "many" "Library.many" sL f64)
  (b7:MI K a "begin" "Library.begin" qL Bk)
  (ca:MI K a "5" "Library.fresh" qM Bn)
  (cb:MI K a "ink" "Library.ink" vc Bp)
  (cc:MI K a "check_held" "Library.check_held" lO Bq)
  (cd:MI K a "pour" "Library.pour" sM Bz)
  (ce:MI K a "put" "Library.put" vd BC)
  (cf:MI K a "shown" "Library.shown" qN BJ)
  (cg:MI K a "cut" "Library.cut" ve BM)
  (ch:MI K a "quote" "Library.quote" qO BN)
  (ci:MI K a "j" "Library.row" vf B0)
  (cj:MI K a "window" "Library.window" pO B1)
  (cm:MI K a "fix" "Library.fix" vg B2)
  (cn:MI K a "move" "Library.move" sN B')
  (cp:MI K c "check_address" "Well.check_address" lP Ch)
  (cq:MI K c "sign" "Well.sign" zD Cn)
  (cr:MI K c "q" "Well.hand" zE Cv)
  (cs:MI K a "veiled" "Library.veiled" lH C')
  (cv:MI K a "text" "Library.text" sO Db)
  (cw:MI K a "now" "Library.now" u9 Dk)
  (cx:MI K c "poured" "Well.poured" vh Dq)
  (cI:MI K a "check_own" "Library.check_own" mY Dx)
  (cO:MI K a "blot" "Library.blot" sP DD)
  (c0:MI K a "lift" "Library.lift" sQ DT)
  (c1:MI K a "hidden" "Library.hidden" pP D1)
  (c2:MI K a "poured_by" "Library.poured_by" mX D2)
  (c3:MI K a "read" "Library.read" sR D5)
  (c4:MI K a "due" "Library.due" vj D6)
  (c5:MI K a "paid" "Library.paid" sS D')
  (c6:DI K "_law_sign" zF Ee)
  (c7:DI K "_law_text" t6 Ek)
  (c8:DI K "_law_world" qP Es)
  (da:DI K "_law_keep" zG Et)
  (dc:DI K "_law_swap" zH Ev)
  (dd:DI K "_law_spell" xX Ew)
  (de:DI K "_law_show" zI Ex)
  (df:DI K "_law_reached" sU EQ)
  (di:DI K "_law_pieces" vm E1)
  (dq:DI K "_law_put" Ct E5)
  (dr:DI K "_law_cut" Cu E')
  (ds:DI K "_law_weighed" sV Fa)
  (dv:DI K "_law_row_of" vo Fd)
  (dx:DI K "_law_fits" t7 Ff)
  (dy:DI K "_law_after" xY Fh)
  (dA:MI K a "back" "Library.back" sW Fk)
  (dC:DI K "_law_done" zJ Fm)
  (dE:DI K "_law_ink_row" sX Fn)
  (dL:DI K "_law_move_by" sY Fs)
  (dS:DI K "_law_draw" zK Fu)
  (dU:DI K "_law_deed" zL Fy)
  (dV:DI K "_law_pour" ua Fz)
  (dW:DI K "_law_fresh" xZ FC)
  (d0:DI K "_law_begin" ya FD)
  (d1:DI K "_law_read" zM FK)
  (d2:DI K "_law_hide" pA FL)
  (d3:DI K "_law_paid_right" kg FM)
  (d4:DI K "law" ML FR)
  (z0:nsIn K mainGlobals "len"=⇑none)
  (z1:nsIn K mainGlobals "h"=⇑none)
  (z2:nsIn K mainGlobals "s"=⇑none)
  (z3:nsIn K mainGlobals "int"=⇑none)
  (z4:nsIn K mainGlobals "bool"=⇑none)
  (z5:nsIn K mainGlobals "str"=⇑none)
  (z6:nsIn K mainGlobals "y"=⇑none)
  (z7:nsIn K mainGlobals "zip"=⇑none)
  (z8:nsIn K mainGlobals "isinstance"=⇑none)
  (z9:nsIn K mainGlobals "sum"=⇑none)
  (d5:nsIn K mainGlobals "min"=⇑none)
  (d6:nsIn K mainGlobals "max"=⇑none)
  (d8:nsIn K mainGlobals "all"=⇑none)
  (ea:nsIn K mainGlobals "sorted"=⇑none)
  (tw:nsIn K mainGlobals "MOST_SHEETS"=⇑(⇑(.int 40 g)))
  (tF:nsIn K mainGlobals "MOST_WEIGHT"=⇑(⇑(.int 200 i)))
  (FU:nsIn K mainGlobals "HIDDEN"=⇑(⇑(.str "#" j)))
  (vq:nsIn K mainGlobals "size_spans"=⇑(⇑↥f5))
  (tG:nsIn K mainGlobals "shown_weave"=⇑(⇑↥sH))
def VS:Prop:=∀ {P:Program} {w:World} {K:Frag} {mg:Ya} {b:Addr},Pm K mg b->∃ c:FuncData,(∀ (s:Shared) (v:Value),BindsTo s c ⟨[v],[]⟩ [("m",v)])/\∀ a:Heap,K.In a->a.Ns mainGlobals mg->aZ P w K mg a cQ 48 b c ["m"] (FO K)
theorem walk{l:PySem.W.OpenLaw}{q:Program}{g:UV}{i:(Ya)->Heap->Prop}{c:World->Heap->Prop}{d:DefRec}{K:Params->Frag}(j:l.most=some 63)(k:d.params.defaults=[])
  (m:∀ (w:World) (h:Heap),c w h->(K w.params).In h)
  (n:∀ (w:World) (a:Ya) (e:Addr) (h:Heap),(K w.params).In h->h.Ns mainGlobals a->a d.name=⇑↥e->
   ∃ f:FuncData,(∀ (s:Shared) (u:Value),BindsTo s f ⟨[u],[]⟩ [("m",u)])/\∀ b:Heap,(K w.params).In b->b.Ns mainGlobals a->aZ l.prog w (K w.params) a b cQ 48 e f ["m"] (FO (K w.params))) :
  PySem.W.WalkO q g i c l.row.toRowW d [] (λo p=>PySem.call o p) :=
 _L2.Ti (n:=63) (k:=48) (x:="m") (o:=λ_=>cQ) (p:=λw=>FO (K w.params)) j (by decide) k ⟨1,by decide,by decide⟩ m n (λ_ _ r t v _ x=>⟨r,t,1,x,v,λ_=>rfl⟩) λ_ _ _ _ _ z=>z
end _gE
namespace InkHd
open PySem.W Rows
set_option maxRecDepth 100000 in
set_option maxHeartbeats 0 in
def hd2(A:_gE.VS):PySem.Challenge.rw_inkroot_k56_whole_dues.Holds:=by
 refine hd_k56 ?_
 k_fill
 refine _gE.walk (l:=PySem.Challenge.rw_inkroot_k56_whole_dues) rfl rfl (λw h Y=>kIn_of Y) ?F'
 case F' =>
  intro w mg fa h KX G hmg
  refine' A (.mk _ _ _ _ _ _ KX G hmg (.mk ..) _ _ (.mk ..) _ _ _ (.mk ..) _ (.mk ..) _ _ (.mk ..) _ (.mk ..) _ _ _ _ _ _ (.mk ..) (.mk ..) (.mk ..) (.mk ..) (.mk ..) (.mk ..) (.mk ..) (.mk ..) (.mk ..) (.mk ..) (.mk ..) (.mk ..) (.mk ..) (.mk ..) (.mk ..) (.mk ..) (.mk ..) (.mk ..) (.mk ..) (.mk ..) (.mk ..) (.mk ..) (.mk ..) (.mk ..) (.mk ..) (.mk ..) (.mk ..) (.mk ..) (.mk ..) (.mk ..) (.mk ..) (.mk ..) (.mk ..) (.mk ..) (.mk ..) (.mk ..) (.mk ..) (.mk ..) (.mk ..) (.mk ..) (.mk ..) (.mk ..) (.mk ..) (.mk ..) (.mk ..) (.mk ..) (.mk ..) (.mk ..) (.mk ..) (.mk ..) (.mk ..) (.mk ..) (.mk ..) (.mk ..) (.mk ..) (.mk ..) (.mk ..) (.mk ..) (.mk ..) (.mk ..) (.mk ..) (.mk ..) (.mk ..) (.mk ..) (.mk ..) (.mk ..) (.mk ..) (.mk ..) (.mk ..) (.mk ..) (.mk ..) (.mk ..) (.mk ..) (.mk ..) (.mk ..) (.mk ..) (.mk ..) (.mk ..) (.mk ..) (.mk ..) (.mk ..) (.mk ..) (.mk ..) (.mk ..) (.mk ..) (.mk ..) (.mk ..) (.mk ..) (.mk ..) (.mk ..) (.mk ..) (.mk ..) (.mk ..) (.mk ..) (.mk ..) (.mk ..) (.mk ..) (.mk ..) (.mk ..) (.mk ..) (.mk ..) (.mk ..) (.mk ..) (.mk ..) (.mk ..) (.mk ..) (.mk ..) (.mk ..) (.mk ..) (.mk ..) (.mk ..) (.mk ..) (.mk ..) (.mk ..) (.mk ..) (.mk ..) (.mk ..) (.mk ..) (.mk ..) (.mk ..) (.mk ..) _ _ _ _ _ _ _ _ _ _ _ _ _ _ _ _ _ _ _)
  all_goals try first|k_is|k_exc|kts_exm
end InkHd
namespace _cN
open Spec Rows _L2
section
variable {X:Cx}
def ff:jB X (.builtin "isinstance") (λa H Q=>∃ x T t b,a=[x,.ty T]/\kK X.K H x t/\kitOne X.K t (.type T)=⇑b/\Q (.bl b) H):=by
 intro g s i H a j Q I r h;let⟨x,T,t,b,rfl,c,e,q⟩:=h;let⟨u,v,rfl,d,f⟩:=r.two;cases (show v=Value.type T from f);exact MC I d c e λc=>⟨.bl b,H,I.tok c,1,q⟩
theorem pQ{x:Str}{T:String}(a:Gl X x)(b:X.mg x=none)(c:bootBuiltins x=⇑(.type T))(d:x≠"X":=by decide)(e:(x == ("u":Str))=false:=by decide):PE X (.Name x f) (tC (.ty T)) :=
 SK a b c rfl d e
end
theorem Tn{d:Cx}{g:_L2.St}{H:Hp}{s:Shared}{h:Heap}{m:Nat}{c:WF}(I:Inv d i g H s)(k:∀ b o,b∉c->s.heap.get? b=⇑o->h.get? b=⇑o)
  (f:∀ b∈c,oZ d i H b):Inv d i g H { s with heap:=h,toks:=m }:=by
 let j:∀ b u,H b=⇑u->b∉c:=λb u e z=>by rw[(f b z).1]at e;cases e
 refine I.step (g':=s.gens) (d':=s.drawn) (ch:=c) (λb n=>?_) (λb o _ _ a e _=>k b o a e) (λb o _ _ a e _=>⟨o.slots,k b o a e⟩) (λ_ _ _ _ a=>a) (λb o a e=>⟨o,k b o a e⟩) (λ_ _ e=>e) (λ_ _ _ e=>e) (λb a e=>⟨#[],by rw[e];simp⟩) (λt p=>?_) (λb u e=>?_) I.bare
 ·let⟨_,a,_,l,q,r⟩:=f b n;exact⟨l,a,q,r⟩
 ·let⟨o,a,l,q,r⟩:=p;exact⟨o,a,l,k _ o (λz=>(f _ z).2.1 rfl) q,r⟩
 ·refine (I.hok b u e).stay (λl v a q=>k l v ?_ q) (λ_ q=>q) λ_ _ q=>q;rcases a with z|z
  ·rw[z];exact j b u e
  ·exact j l _ z
theorem sK{h:Cx}{n:_L2.St}{H:Hp}{s:Shared}{i:Heap}{w:Nat}{d:WF}{p:Addr}{j:List V}{l:WP}(I:Inv h r n H s)(k:∀ b o,b∉d->s.heap.get? b=⇑o->i.get? b=⇑o)
  (m:∀ b∈d,oZ h r H b) (t:s⁻¹<=p) (x:↑j<=sizeLine) (y:cK j l) (A:IsTup i p l.toArray):Inv h r n (aO H p (.tup j)) { s with heap:=i,toks:=w }:=by
 let c:H p=none:=I.hok.fresh t;let v:∀ b u,H b=⇑u->b∉d:=λb u e z=>by rw[(m b z).1]at e;cases e
 let q:∀ b o,s.heap.get? b=⇑o->b≠p:=λb o e z=>by subst z;exact absurd (qw (Heap.lt_size e) t) (Nat.lt_irrefl _)
 refine I.step (g':=s.gens) (d':=s.drawn) (ch:=d) (λb f=>?_) (λb o _ _ a e _=>k b o a e) (λb o _ _ a e _=>⟨o.slots,k b o a e⟩) (λb o _ e a=>by rw[aN (q b o e)];exact a) (λb o a e=>⟨o,k b o a e⟩) (λb B e=>by rw[aN (aB e c)];exact e) (λb _ _ e=>by rw[aN (aB e c)];exact e) (λb a e=>⟨#[],by rw[aN (aB e c),e];simp⟩) (λD q=>?_) (λb u e=>?_) I.bare
 ·let⟨_,a,_,g,B,C⟩:=m b f;exact⟨g,a,B,C⟩
 ·let⟨o,a,g,B,C⟩:=q;exact⟨o,a,g,k _ o (λz=>(m _ z).2.1 rfl) B,C⟩
 ·by_cases f:b=p
  ·subst f;rw[af]at e;cases e;exact⟨x,l,y,A⟩
  ·rw[aN f]at e;refine (I.hok b u e).stay (λg f a q=>k g f ?_ q) (λg q=>by rw[aN (aB q c)];exact q) λg B q=>by rw[aN (aB q c)];exact q
   rcases a with z|z
   ·rw[z];exact v b u e
   ·exact v g _ z
def Im(k:Bool)(h:Heap)(i a:Addr)(n:Nat):Prop:=match k with
 | true=>h.IsListIter i a n
 | false=>h.IsTupleIter i a n
def Bh(k:Bool)(h:Heap)(a:Addr)(b:Xt):Prop:=match k with
 | true=>h.IsList a b
 | false=>h.IsTuple a b
def Im.at{k:Bool}{h b:Heap}{i c:Addr}{n:Nat}(x:Im k h i c n)(e:∀ o,h.get? i=⇑o->b.get? i=⇑o):Im k b i c n:=by
 cases k
 ·let⟨o,a,r⟩:=x;exact⟨o,e o a,r⟩
 ·let⟨o,a,r⟩:=x;exact⟨o,e o a,r⟩
def Bh.at{k:Bool}{h c:Heap}{a:Addr}{d:Xt}(x:Bh k h a d)(e:∀ o,h.get? a=⇑o->c.get? a=⇑o):Bh k c a d:=by
 cases k
 ·let⟨o,b,r⟩:=x;exact⟨o,e o b,r⟩
 ·let⟨o,b,r⟩:=x;exact⟨o,e o b,r⟩
def Im.obj{k:Bool}{h:Heap}{i b:Addr}{n:Nat}(x:Im k h i b n):∃ o,h.get? i=⇑o/\∀ v,o.data≠.cell v:=by
 cases k
 ·let⟨o,a,_,d⟩:=x;exact⟨o,a,λv z=>by rw[d]at z;cases z⟩
 ·let⟨o,a,_,d⟩:=x;exact⟨o,a,λv z=>by rw[d]at z;cases z⟩
section
variable {prog:Program} {w:World} {A:Around} {E:ZB} {s:Shared}
theorem Jf{a t:Addr}{i:Nat}{f:Xt}{x:Value}{Q:ZB}(d:s.heap.IsTupleIter a t i)(g:s.heap.IsTuple t f)(h:f[i]?=⇑x)
  (j:∀ e,e.IsTupleIter a t (i+1)->Heap.SameBut a s.heap e->Q x { s with heap:=e }):wpAny (model prog w) A (Builtin.SmallTypes.nextOf ↥a) Q E s:=by
 let⟨o,c,k,b⟩:=id d;let⟨n,l,_,o,m⟩:=g;unfold Builtin.SmallTypes.nextOf;refine wpAny_bind (wpAny_callSpecial?_slot (name:=Str.ofString "__next__") d.typeIs F.slot_tuple_iterator_next (wpAny_call_entry F.slot_tuple_iterator_next d.typeIs F.entry_tuple_iterator_next ?_ (F.args_tuple_iterator_next_1 _)));show wpAny _ _ (field ↥a 0 >>= _) _ _ s;refine wpAny_bind (wpAny_field c b (x:=↥t) rfl ?_);show wpAny _ _ (if (Value.ref t == Value.none)=true then _ else _) _ _ s;rw[if_neg (show ¬ ((Value.ref t == Value.none)=true) from gP)];show wpAny _ _ (field ↥a 1 >>= _) _ _ s;refine wpAny_bind (wpAny_field c b (x:=.int i 0) rfl ?_);show wpAny _ _ (seqItems? ↥t >>= _) _ _ s;refine wpAny_bind (wpAny_seqItems l m ?_);simp only[Int.toNat_natCast,h];refine wpAny_bind (wpAny_setField c b (by simp) (wpAny_pure ⟨x,1,wpAny_pure (j _ ?_ (Heap.SameBut.update ..))⟩));exists _,Heap.get?_update_self _ c (Obj.isFreed_of_fields (Obj.data_mapFields b _)),(Obj.cls_mapFields ..).trans k;rw[Obj.data_mapFields b];simp[rawInt]
theorem MM{a t:Addr}{i:Nat}{f:Xt}{Q:ZB}(g:A.handled=none)(b:s.heap.IsTupleIter a t i)(j:s.heap.IsTuple t f)(k:f[i]?=none)
  (l:∀ c h,Heap.ExtBut a s.heap c->(∃ o,c.get? h=⇑o/\o.cls=.type "S")->E ↥h { s with heap:=c }):wpAny (model prog w) A (Builtin.SmallTypes.nextOf ↥a) Q E s:=by
 let⟨o,d,p,e⟩:=id b;let⟨p,m,_,q,n⟩:=j;unfold Builtin.SmallTypes.nextOf;refine wpAny_bind (wpAny_callSpecial?_slot (name:=Str.ofString "__next__") b.typeIs F.slot_tuple_iterator_next (wpAny_call_entry F.slot_tuple_iterator_next b.typeIs F.entry_tuple_iterator_next ?_ (F.args_tuple_iterator_next_1 _)));show wpAny _ _ (field ↥a 0 >>= _) _ _ s;refine wpAny_bind (wpAny_field d e (x:=↥t) rfl ?_);show wpAny _ _ (if (Value.ref t == Value.none)=true then _ else _) _ _ s;rw[if_neg (show ¬ ((Value.ref t == Value.none)=true) from gP)];show wpAny _ _ (field ↥a 1 >>= _) _ _ s;refine wpAny_bind (wpAny_field d e (x:=.int i 0) rfl ?_);show wpAny _ _ (seqItems? ↥t >>= _) _ _ s;refine wpAny_bind (wpAny_seqItems m n ?_);simp only[Int.toNat_natCast,k];refine wpAny_bind (wpAny_rule (wpAny_bind (wpAny_setField d e (by simp) ?_)));show wpAny _ _ (newExc (.type "S") [] >>= _) _ _ _;refine wpAny_bind ?_;simp only[newExc,newTuple];refine wpAny_bind (wpAny_newObj_type ?_ (by size_fits))
 refine wpAny_bind (m:=firstArgMember _ _) (wpAny_of_eq (a:=Value.none) (by first|rfl|(simp only[firstArgMember];rfl)) ?_)
 refine wpAny_newObj_type ?_ (by size_fits);simp only[raiseNew];refine wpAny_bind (wpAny_handled ?_)
 first|rw[show A.in1.handled=none from g]|rw[g]
 refine wpAny_bind (wpAny_pure (wpAny_throw ?_));exact l _ _ (((Heap.SameBut.update ..).extBut.push _).push _) ⟨_,Heap.get?_push_size _ rfl,1⟩
theorem ue{k:Bool}{a t:Addr}{i:Nat}{c:Xt}{x:Value}{Q:ZB}(d:Im k s.heap a t i)(e:Bh k s.heap t c)(f:c[i]?=⇑x)
  (g:∀ b,Im k b a t (i+1)->Heap.SameBut a s.heap b->Q x { s with heap:=b }):wpAny (model prog w) A (Builtin.SmallTypes.nextOf ↥a) Q E s:=by
 cases k
 ·exact Jf d e f g
 ·exact wpAny_nextOf_list_item d e f g
theorem Cy{k:Bool}{a t:Addr}{i:Nat}{c:Xt}{Q:ZB}(d:A.handled=none)(e:Im k s.heap a t i)(f:Bh k s.heap t c)(g:c[i]?=none)
  (h:∀ b j,Heap.ExtBut a s.heap b->(∃ o,b.get? j=⇑o/\o.cls=.type "S")->E ↥j { s with heap:=b }):wpAny (model prog w) A (Builtin.SmallTypes.nextOf ↥a) Q E s:=by
 cases k
 ·exact MM d e f g h
 ·exact wpAny_nextOf_list_end d e f g h
abbrev Cz(k:Bool)(l:Addr):Obj:={ cls:=.type (if k then "list_iterator" else "tuple_iterator"),data:=.fields (List.toArray [↥l,.int 0 0]) }
def VT{k:Bool}{l:Addr}{b:Xt}{Q:ZB}(h:Bh k s.heap l b)(a:Q ↥s⁻¹ { s with heap:=s.heap.push (Cz k l) }):wpAny (model prog w) A (pyIter ↥l) Q E s:=by
 cases k
 ·exact wpAny_pyIter_tuple h a
 ·exact wpAny_pyIter_list h a
structure CA(k:Bool)(h:Heap)(z TI TO i1 i2 l1 l2:Addr)(n:Nat):Prop where
 z:IsZip h z TI TO .none
 ti:IsPair h TI ↥i1 ↥i2
 to:∃ a b,IsPair h TO a b
 i1:Im k h i1 l1 n
 i2:Im k h i2 l2 n
theorem MN{k:Bool}{z TI TO b d l m:Addr}{n:Nat}{M N:Xt}{x y:Value}{Q:ZB}(D:ZipApart z TI TO b d l m)(ab:CA k s.heap z TI TO b d l m n)
  (Io:Bh k s.heap l M) (yt:Bh k s.heap m N) (hx:M[n]?=⇑x) (hy:N[n]?=⇑y)
  (hQ:∀ f,IsZip f z TI TO (rawInt s⁻¹)->IsPair f TO x y->Im k f b l (n+1)->Im k f d m (n+1)->IsPair f s⁻¹ x y->
   (∀ c o,c≠z->c≠TO->c≠b->c≠d->s.heap.get? c=⇑o->f.get? c=⇑o)->Q ↥s⁻¹ { s with heap:=f }) :
  wpAny (model prog w) A (Builtin.«zip.__next__» ⟨[↥z],[]⟩) (λae s'=>∃ O,ae=.done (.ret O)/\Q O s') E s:=by
 let⟨p,ag,⟨ai,F,ak⟩,h1,h2⟩:=ab;show wpAny _ _ (field ↥z 2 >>= _) _ _ _;refine wpAny_bind (wpAny_field p rfl (x:=.bool false) rfl ?_);show wpAny _ _ (field ↥z 3 >>= _) _ _ _;refine wpAny_bind (wpAny_field p rfl (x:=↥TI) rfl (wpAny_bind (wpAny_seqItems ag rfl ?_)));show wpAny _ _ (Builtin.SmallTypes.ownedTupleIsFree ↥z >>= _) _ _ _;refine wpAny_bind ?_;unfold Builtin.SmallTypes.ownedTupleIsFree;refine wpAny_bind (wpAny_field p rfl (x:=.none) rfl (wpAny_pure ?_));simp only[if_true];refine wpAny_bind (wpAny_rule (wpAny_bind (wpAny_field p rfl (x:=↥TO) rfl (wpAny_bind (wpAny_setField_rec p (by simp) λg1 G g=>?_)))))
 replace G:IsZip g1 z TI TO .ellipsis:=G
 refine wpAny_bind ?_;simp only[List.zipIdx_cons,List.zipIdx_nil,List.forIn_cons,List.forIn_nil];refine wpAny_bind (wpAny_bind (wpAny_onRaise ?_));show wpAny _ _ (Builtin.SmallTypes.nextOf ↥b >>= _) _ _ _;refine wpAny_bind (ue (h1.at λo e=>g.extBut _ _ D.i1z e) (Io.at λo e=>g.extBut _ _ D.l1z e) hx λp Og i=>wpAny_pure ?_);let R:IsPair p TO ai F:=i.extBut _ _ D.TOi1 (g.extBut _ _ D.TOz ak);refine wpAny_bind (wpAny_seqItems R rfl (wpAny_bind (wpAny_updateSeq_pair R λg3 H j=>?_)))
 replace H:IsPair g3 TO x F:=H
 refine wpAny_bind (wpAny_letGo (wpAny_pure (wpAny_bind (wpAny_bind (wpAny_onRaise ?_)))));show wpAny _ _ (Builtin.SmallTypes.nextOf ↥d >>= _) _ _ _;refine wpAny_bind (ue (((h2.at λo e=>g.extBut _ _ D.i2z e).at λo e=>i.extBut _ _ D.i12.symm e).at λo e=>j.extBut _ _ D.TOi2.symm e) (((yt.at λo e=>g.extBut _ _ D.l2z e).at λo e=>i.extBut _ _ D.l2i1 e).at λo e=>j.extBut _ _ D.l2TO e) hy λp am q=>wpAny_pure ?_);let S:IsPair p TO x F:=q.extBut _ _ D.TOi2 H;refine wpAny_bind (wpAny_seqItems S rfl (wpAny_bind (wpAny_updateSeq_pair S λa t r=>?_)))
 replace t:IsPair a TO x y:=t
 refine wpAny_bind (wpAny_letGo (wpAny_pure (wpAny_pure (wpAny_bind (wpAny_seqItems t rfl (wpAny_bind (wpAny_newTuple ?_)))))));let T:a.objs.size=s⁻¹:=by rw[r.1,q.1,j.1,i.1,g.1]
 let p:IsZip a z TI TO .ellipsis:=r.extBut _ _ D.TOz.symm (q.extBut _ _ D.i2z.symm (j.extBut _ _ D.TOz.symm (i.extBut _ _ D.i1z.symm G)));let k5:∀ c o,c≠z->c≠TO->c≠b->c≠d->s.heap.get? c=⇑o->a.get? c=⇑o:=λc o h u I J e=>r.extBut _ _ u (q.extBut _ _ J (j.extBut _ _ u (i.extBut _ _ I (g.extBut _ _ h e))));have an:Im k a b l (n+1):=((Og.at λo e=>j.extBut _ _ D.TOi1.symm e).at λo e=>q.extBut _ _ D.i12 e).at λo e=>r.extBut _ _ D.TOi1.symm e;have ap:Im k a d m (n+1):=am.at λo e=>r.extBut _ _ D.TOi2.symm e;have U:z<a.objs.size:=Heap.lt_size p;show wpAny _ _ (Builtin.SmallTypes.ownedTupleHandOut ↥z ↥a.objs.size >>= _) _ _ _;refine wpAny_bind ?_;unfold Builtin.SmallTypes.ownedTupleHandOut;have g:IsZip (a.push { cls:=.type "s",data:=.seq (List.toArray [x,y]) }) z TI TO .ellipsis:=Heap.get?_push_of_some _ p;refine wpAny_bind (wpAny_setField_rec g (by simp) λg7 L W=>?_)
 replace L:IsZip g7 z TI TO (rawInt a.objs.size):=L
 refine wpAny_setField_rec L (by simp) λv B X=>?_
 replace B:IsZip v z TI TO (rawInt a.objs.size):=B
 let C:∀ c o,c≠z->a.get? c=⇑o->v.get? c=⇑o:=λc o h e=>X.extBut _ _ h (W.extBut _ _ h (Heap.get?_push_of_some _ e));have t8:IsPair v a.objs.size x y:=X.extBut _ _ (Nat.ne_of_gt U) (W.extBut _ _ (Nat.ne_of_gt U) (Heap.get?_push_size _ rfl));rw[T]at B t8;refine wpAny_pure ⟨Y,?_⟩;show Q ↥a.objs.size _;rw[T];exact hQ v B (C _ _ D.TOz t) (an.at λo e=>C _ o D.i1z e) (ap.at λo e=>C _ o D.i2z e) t8 λc o h u I J e=>C c o h (k5 c o h u I J e)
theorem Pk{p:Bool}{z TI TO k l q r:Addr}{n:Nat}{t u:Xt}{Q:Fin->Shared->Prop}(I:A.handled=none)(D:ZipApart z TI TO k l q r)(T:CA p s.heap z TI TO k l q r n)
  (J:Bh p s.heap q t) (U:Bh p s.heap r u) (XI:t[n]?=none\/u[n]?=none)
  (L:∀ v e,(∀ c o,c≠z->c≠TO->c≠k->c≠l->s.heap.get? c=⇑o->v.get? c=⇑o)->(∃ o,v.get? e=⇑o/\o.cls=.type "S")->E ↥e { s with heap:=v }) :
  wpAny (model prog w) A (Builtin.«zip.__next__» ⟨[↥z],[]⟩) Q E s:=by
 let⟨g,W,⟨X,ab,ae⟩,M,h2⟩:=T;show wpAny _ _ (field ↥z 2 >>= _) _ _ _;refine wpAny_bind (wpAny_field g rfl (x:=.bool false) rfl ?_);show wpAny _ _ (field ↥z 3 >>= _) _ _ _;refine wpAny_bind (wpAny_field g rfl (x:=↥TI) rfl (wpAny_bind (wpAny_seqItems W rfl ?_)));show wpAny _ _ (Builtin.SmallTypes.ownedTupleIsFree ↥z >>= _) _ _ _;refine wpAny_bind ?_;unfold Builtin.SmallTypes.ownedTupleIsFree;refine wpAny_bind (wpAny_field g rfl (x:=.none) rfl (wpAny_pure ?_));simp only[if_true];refine wpAny_bind (wpAny_rule (wpAny_bind (wpAny_field g rfl (x:=↥TO) rfl (wpAny_bind (wpAny_setField_rec g (by simp) λg1 m a=>?_)))))
 replace m:IsZip g1 z TI TO .ellipsis:=m
 refine wpAny_bind ?_;simp only[List.zipIdx_cons,List.zipIdx_nil,List.forIn_cons,List.forIn_nil];refine wpAny_bind (wpAny_bind (wpAny_onRaise ?_));show wpAny _ _ (Builtin.SmallTypes.nextOf ↥k >>= _) _ _ _
 cases y:t[n]? with
 | none =>
  refine wpAny_bind (Cy I (M.at λo e=>a.extBut _ _ D.i1z e) (J.at λo e=>a.extBut _ _ D.l1z e) y λB e b C=>?_);let⟨F,d,i⟩:=C;let N:IsZip B z TI TO .ellipsis:=b _ _ D.i1z.symm m;let G:e≠z:=λx=>by subst x;rw[N]at d;cases d;simp at i
  exact wpAny_setField_rec N (by simp) λO _ f=>L O e (λc o j _ H _ x=>f.extBut _ _ j (b _ _ H (a.extBut _ _ j x))) ⟨F,f.extBut _ _ G d,i⟩
 | some x =>
  let hy:u[n]?=none:=by rcases XI with h|h;(rw[y]at h;cases h);exact h
  refine wpAny_bind (ue (M.at λo e=>a.extBut _ _ D.i1z e) (J.at λo e=>a.extBut _ _ D.l1z e) y λB g b=>wpAny_pure ?_);let N:IsPair B TO X ab:=b.extBut _ _ D.TOi1 (a.extBut _ _ D.TOz ae);refine wpAny_bind (wpAny_seqItems N rfl (wpAny_bind (wpAny_updateSeq_pair N λO g f=>?_)));refine wpAny_bind (wpAny_letGo (wpAny_pure (wpAny_bind (wpAny_bind (wpAny_onRaise ?_)))));show wpAny _ _ (Builtin.SmallTypes.nextOf ↥l >>= _) _ _ _;refine wpAny_bind (Cy I (((h2.at λo e=>a.extBut _ _ D.i2z e).at λo e=>b.extBut _ _ D.i12.symm e).at λo e=>f.extBut _ _ D.TOi2.symm e) (((U.at λo e=>a.extBut _ _ D.l2z e).at λo e=>b.extBut _ _ D.l2i1 e).at λo e=>f.extBut _ _ D.l2TO e) hy λg e R C=>?_);let⟨F,d,i⟩:=C;let S:IsZip g z TI TO .ellipsis:=R _ _ D.i2z.symm (f.extBut _ _ D.TOz.symm (b.extBut _ _ D.i1z.symm m));let G:e≠z:=λx=>by subst x;rw[S]at d;cases d;simp at i
  exact wpAny_setField_rec S (by simp) λm _ g=>L m e (λc o j m H y x=>g.extBut _ _ j (R _ _ y (f.extBut _ _ m (b.extBut _ _ H (a.extBut _ _ j x))))) ⟨F,g.extBut _ _ G d,i⟩
theorem Jg{k:Bool}{z TI TO b d e f:Addr}{n:Nat}{g h:Xt}{x y:Value}{Q:Option Value->Shared->Prop}(D:ZipApart z TI TO b d e f)(i:CA k s.heap z TI TO b d e f n)
  (l:Bh k s.heap e g) (m:Bh k s.heap f h) (p:g[n]?=⇑x) (q:h[n]?=⇑y)
  (r:∀ a,IsZip a z TI TO (rawInt s⁻¹)->IsPair a TO x y->Im k a b e (n+1)->Im k a d f (n+1)->IsPair a s⁻¹ x y->
   (∀ c o,c≠z->c≠TO->c≠b->c≠d->s.heap.get? c=⇑o->a.get? c=⇑o)->Q (⇑↥s⁻¹) { s with heap:=a }):wpAny (model prog w) A (pyNext ↥z) Q E s:=by
 let j:s.TypeIs ↥z "zip":=⟨_,i.z,1⟩;unfold pyNext;exact wpAny_bind (wpAny_attempt (wpAny_callSpecial?_slot (name:=Str.ofString "__next__") j F.slot_zip_next (wpAny_call_entry F.slot_zip_next j F.entry_zip_next (MN D i l m p q λa j t u v B C=>wpAny_pure (r a j t u v B C)) (F.args_zip_next_1 _))))
theorem MO{k:Bool}{z TI TO a b d e:Addr}{n:Nat}{g h:Xt}{Q:Option Value->Shared->Prop}(l:A.handled=none)(D:ZipApart z TI TO a b d e)(i:CA k s.heap z TI TO a b d e n)
  (m:Bh k s.heap d g) (p:Bh k s.heap e h) (q:g[n]?=none\/h[n]?=none)
  (r:∀ f,(∀ c o,c≠z->c≠TO->c≠a->c≠b->s.heap.get? c=⇑o->f.get? c=⇑o)->Q none { s with heap:=f }):wpAny (model prog w) A (pyNext ↥z) Q E s:=by
 let j:s.TypeIs ↥z "zip":=⟨_,i.z,1⟩;unfold pyNext;refine wpAny_bind (wpAny_attempt (wpAny_callSpecial?_slot (name:=Str.ofString "__next__") j F.slot_zip_next (wpAny_call_entry F.slot_zip_next j F.entry_zip_next (Pk l D i m p q λf u j t=>?_) (F.args_zip_next_1 _))));let⟨o,u,v⟩:=t;exact wpAny_bind (wpAny_isInstance (T:="S") (b:=true) ⟨o,u,v⟩ isSubtype_stop (wpAny_pure (r _ j)))
end
abbrev eM(k:Bool)(h:Heap)(a:Addr):Heap:=h.push (Cz k a)
abbrev eP(k:Bool)(h:Heap)(a b:Addr):Heap:=(eM k h a).push (Cz k b)
abbrev eQ(k:Bool)(h:Heap)(a b:Addr):Heap:=(eP k h a b).push { cls:=.type "s",data:=.seq (List.toArray [↥h.objs.size,.ref (eM k h a).objs.size]) }
abbrev eR(k:Bool)(h:Heap)(a b:Addr):Heap:=(eQ k h a b).push { cls:=.type "s",data:=.seq (List.toArray [.none,.none]) }
abbrev ZE(k:Bool)(h:Heap)(a b:Addr):Heap:=(eR k h a b).push { cls:=.type "zip",data:=.fields (List.toArray [.none,.bool false,.bool false,.ref (eP k h a b).objs.size,.ref (eQ k h a b).objs.size]) }
theorem Jh(k:Bool)(a b:Addr)(c d:Xt) :
  Meets (Builtin.«zip.__new__» ⟨[.type "zip",↥a,↥b],[]⟩) (λ_ e s=>Bh k s.heap a c/\Bh k s.heap b d/\e (.ok (.ret (.ref (eR k s.heap a b).objs.size))) { s with heap:=ZE k s.heap a b }) :=
 .of_wp λf w A e s h=>by
  let⟨f,g,i,j,l⟩:=s;let⟨m,n,h⟩:=h;let o:=sub_zip;let o:Bh k (Shared.heap ⟨f,g,i,j,l⟩) a c:=m;let m:Bh k (Shared.heap ⟨f.push (Cz k a),g,i,j,l⟩) b d:=n.at λg f=>Heap.get?_push_of_some _ f
  wp_walk using VT o,VT m
  exact⟨Y,h⟩
section
variable {prog:Program} {w:World} {A:Around} {E:ZB} {s:Shared}
theorem MP{k:Bool}{a b:Addr}{j l:Xt}{Q:ZB}(r:Bh k s.heap a j)(t:Bh k s.heap b l)
  (u:∀ c,CA k c (s⁻¹+4) (s⁻¹+2) (s⁻¹+3) s⁻¹ (s⁻¹+1) a b 0->(∀ d o,s.heap.get? d=⇑o->c.get? d=⇑o)->Q (.ref (s⁻¹+4)) { s with heap:=c }) :
  wpAny (model prog w) A (call (.type "zip") [↥a,↥b]) Q E s:=by
 refine callType_new F.called_zip (by decide) (F.typeCall_zip_2 _ _) (F.newCall_zip_2 _ _) (λe=>F.args_object_init_3 e _ _) F.entry_zip_new (Jh k a b j l) ⟨r,t,?_⟩;let e:(eM k s.heap a).objs.size=s⁻¹+1:=Heap.size_push ..;let f:(eP k s.heap a b).objs.size=s⁻¹+2:=by rw[Heap.size_push,e]
 let g:(eQ k s.heap a b).objs.size=s⁻¹+3:=by rw[Heap.size_push,f]
 let m:(eR k s.heap a b).objs.size=s⁻¹+4:=by rw[Heap.size_push,g]
 let h:(ZE k s.heap a b).get? (eR k s.heap a b).objs.size=⇑_:=Heap.get?_push_size _ rfl;let n:(ZE k s.heap a b).get? (eQ k s.heap a b).objs.size=⇑_:=Heap.get?_push_of_some _ (Heap.get?_push_size _ rfl);let p:(ZE k s.heap a b).get? (eP k s.heap a b).objs.size=⇑_:=Heap.get?_push_of_some _ (Heap.get?_push_of_some _ (Heap.get?_push_size _ rfl));let i:(ZE k s.heap a b).get? (eM k s.heap a).objs.size=⇑(Cz k b):=Heap.get?_push_of_some _ (Heap.get?_push_of_some _ (Heap.get?_push_of_some _ (Heap.get?_push_size _ rfl)));let q:(ZE k s.heap a b).get? s⁻¹=⇑(Cz k a):=Heap.get?_push_of_some _ (Heap.get?_push_of_some _ (Heap.get?_push_of_some _ (Heap.get?_push_of_some _ (Heap.get?_push_size _ rfl))));show _/\_;rw[f,g,m]at h;rw[e,f]at p;rw[g]at n;rw[e]at i;rw[m];refine⟨⟨_,h,1⟩,u _ ⟨h,p,⟨E,n⟩,?_,?_⟩ λd o x=>Heap.get?_push_of_some _ (Heap.get?_push_of_some _ (Heap.get?_push_of_some _ (Heap.get?_push_of_some _ (Heap.get?_push_of_some _ x))))⟩
 ·cases k
  ·exact⟨_,q,V⟩
  ·exact⟨_,q,V⟩
 ·cases k
  ·exact⟨_,i,V⟩
  ·exact⟨_,i,V⟩
end
def Lv(K:Frag)(k:Bool)(H:Hp)(a:Addr)(b:List V):Prop:=match k with
 | true=>bJ K H a b
 | false=>dN K H a b
def wA{c:Cx}{e:_L2.St}{H:Hp}{s:Shared}{k:Bool}{d:Addr}{b:List V}(I:Inv c f e H s)(h:Lv c.K k H d b):∃ a:List Value,cK b a/\Bh k s.heap d a.toArray/\↑b<=sizeLine:=by
 cases k
 ·let⟨a,r,p,z⟩:=I.tuple h;exact⟨a,r,p,z⟩
 ·let⟨a,r,p,z⟩:=I.list h;exact⟨a,r,p.isList,z⟩
def Lw{a:Cx}{f:_L2.St}{H:Hp}{s:Shared}{k:Bool}{b:Addr}{c d:List V}(I:Inv a g f H s)(h:Lv a.K k H b c)(e:Lv a.K k H b d):c=d:=by
 cases k
 ·exact I.Ce h e
 ·exact I.FF h e
def Pn{k:Bool}{h:Heap}{b:Addr}{c:Xt}(x:Bh k h b c):b<h.objs.size:=by
 cases k
 ·let⟨o,a,_⟩:=x;exact Heap.lt_size a
 ·let⟨o,a,_⟩:=x;exact Heap.lt_size a
def eg(K:Frag)(k:Bool)(c d:Addr):It :=
 ⟨λi H=>∃ a b x y,Lv K k H c a/\Lv K k H d b/\a[i]?=⇑x/\b[i]?=⇑y,λi H v e=>∃ p x y,H p=none/\v=↥p/\e=aO H p (.tup [x,y])/\(∀ a,Lv K k H c a->a[i]?=⇑x)/\∀ b,Lv K k H d b->b[i]?=⇑y,λi H=>∃ a b,Lv K k H c a/\Lv K k H d b/\(↑a<=i\/↑b<=i)⟩
theorem Po{P:Program}{ae:World}{K:Frag}{x1:Nat}{N:Bool}{z TI TO g h q r:Addr}(D:ZipApart z TI TO g h q r) :
  IL P ae K (.Tuple XM x1 MB) (eg K N q r) [z,TI,TO,g,h] z (λj k=>CA N k z TI TO g h q r j) where
 mem:=by simp
 obj:=λj k c b a=>by
  let⟨l,m,⟨x,y,n⟩,p,d⟩:=c;simp only[List.mem_cons,List.not_mem_nil,or_false]at a;rcases a with rfl|rfl|rfl|rfl|rfl
  ·exact⟨_,l,λv e=>by cases e⟩
  ·exact⟨_,m,λv e=>by cases e⟩
  ·exact⟨_,n,λv e=>by cases e⟩
  ·exact p.obj
  ·exact d.obj
 keep:=λj k O c f=>by
  let⟨l,m,⟨x,y,n⟩,p,d⟩:=c;exact⟨f z (by simp) _ l,f TI (by simp) _ m,⟨x,y,f TO (by simp) _ n⟩,p.at λo e=>f g (by simp) o e,d.at λo e=>f h (by simp) o e⟩
 item:=by
  intro X A B C R j S s T U E I t c F;subst A B C;let⟨xs,ys,M,W,u,w,e1,e2⟩:=F;let⟨us,G,H,_⟩:=wA I u;let⟨vs,J,L,_⟩:=wA I w;let⟨ab,i,ru⟩:=G.get e1;let⟨v,ev,rv⟩:=J.get e2;refine Jg (x:=ab) (y:=v) D c H L (by simpa using i) (by simpa using ev) λO i g2 g3 g4 g5 g7=>?_;refine⟨Y,wpAny_letOwnedTupleGo_zip i λd ag i=>?_⟩;have ne:∀ {b o},s.heap.get? b=⇑o->s⁻¹≠b:=λe=>Nat.ne_of_gt (Heap.lt_size e)
  let k2:∀ b o,b∉[z,TI,TO,g,h]->s.heap.get? b=⇑o->d.get? b=⇑o:=λb o a e=>by
   simp only[List.mem_cons,List.not_mem_nil,or_false,not_or]at a;exact i.extBut _ _ a.1 (g7 b o a.1 a.2.2.1 a.2.2.2.1 a.2.2.2.2 e)
  let I2:Inv X S T (aO U s⁻¹ (.tup [M,W])) { s with heap:=d,toks:=s.toks } := sK I k2 t (fF _) (by show 2<=sizeLine;decide) (.cons ru (.cons rv .nil)) ⟨_,i.extBut _ _ (ne c.z) g5,1,Y⟩;refine⟨↥s⁻¹,_,I2,1,⟨_,M,W,I.hok.fresh (fF _),V,λW M=>?_,λW M=>?_⟩,?_,λb a=>?_⟩
  ·rw[Lw I M u];exact e1
  ·rw[Lw I M w];exact e2
  ·exact⟨ag,i.extBut _ _ D.TIz (g7 _ _ D.TIz D.TITO D.TIi1 D.TIi2 c.ti),⟨ab,v,i.extBut _ _ D.TOz g2⟩,g3.at λo e=>i.extBut _ _ D.i1z e,g4.at λo e=>i.extBut _ _ D.i2z e⟩
  ·let qt:∃ o,s.heap.get? b=⇑o:=by
    let⟨l,m,⟨x,y,n⟩,p,d⟩:=c;simp only[List.mem_cons,List.not_mem_nil,or_false]at a;rcases a with rfl|rfl|rfl|rfl|rfl
    ·exact⟨_,l⟩
    ·exact⟨_,m⟩
    ·exact⟨_,n⟩
    ·exact p.obj.imp λ_ e=>e.1
    ·exact d.obj.imp λ_ e=>e.1
   let⟨o,e⟩:=qt;rw[aN (ne e).symm];exact (t b a).1
 done:=by
  intro X A B C R j S s T U E I t c F;subst A B C;let⟨xs,ys,u,w,e⟩:=F;let⟨us,G,H,_⟩:=wA I u;let⟨vs,J,L,_⟩:=wA I w;let q:=↑G;let r:=↑J;refine MO (I.ok.hd R) D c H L (e.imp (λe=>by simp;lia) (λe=>by simp;lia)) λO f=>⟨1,Tn (m:=s.toks) (c:=[z,TI,TO,g,h]) I (λb o a e=>?_) t⟩;simp only[List.mem_cons,List.not_mem_nil,or_false,not_or]at a;exact f b o a.1 a.2.2.1 a.2.2.2.1 a.2.2.2.2 e
 self:=λ_ _ _ _ _ c k=>wpAny_pyIter_zip c.z k
def sT(K:Frag)(d:TA):TI:=fun a H R=>d a H λe a=>∃ k b c f g,e=[↥b,↥c]/\Lv K k a b f/\Lv K k a c g/\R (eg K k b c) a
theorem XN{a:Cx}{o:Nat}{d b:Expr}{g:TA}{p:Pos}(q:Gl a "zip")(r:a.mg "zip"=none)(t:PA a [d,b] g)
  (u:starEach [d,b] a.env=[(false,eval d a.env),(false,eval b a.env)]:=by rfl) (h:starEach [b] a.env=[(false,eval b a.env)]:=by rfl):PI a (.Tuple L o M) (.Call (.Name "zip" p) [d,b] [] v) (sT a.K g):=by
 intro i s j H R I l;refine Call_ (we I q r boot_zip (PyProof.Rows.callWith_type1 (dP (t v i s j H _ I l) λw e ⟨l,k,c,x,f⟩=>?_) (by rw[u,h]) (by rw[h];rfl)));let⟨l,y,z,H,I,A,f,B,C⟩:=f;subst A;let⟨D,F,rfl,G,J⟩:=x.two;cases (show D=Value.ref y from G);cases (show F=Value.ref z from J);let⟨w,w,l,_⟩:=wA c f;let⟨w,x,f,_⟩:=wA c B;let w:=Pn l;let x:=Pn f;refine MP l f λl f y=>wpAny_pyIter_zip f.z ?_;have z:Inv a i j k { e with heap:=l,toks:=e.toks }:=c.kept y;refine⟨Q,_,k,1,z,Po (zipApart_new w x),f,λb m=>?_,C⟩
 let n:e⁻¹<=b:=by
  simp only[List.mem_cons,List.not_mem_nil,or_false]at m;rcases m with rfl|rfl|rfl|rfl|rfl
  ·exact Nat.le_add_right _ _
  ·exact Nat.le_add_right _ _
  ·exact Nat.le_add_right _ _
  ·exact fF _
  ·exact Nat.le_add_right _ _
 exact c.Mw n (c.hok.fresh n)
theorem To{K:Frag}{k:Bool}{f g:Addr}{b c:List V}{q:TG}{r:TS}{D:Ends}{a:_L2.St}{H:Hp}(d:Nat->_L2.St->Hp->Prop)(I:↑b=↑c)(u:d 0 a H)
  (v:∀ i a H,i<=↑b->d i a H->Lv K k H f b/\Lv K k H g c)
  (w:∀ i x y p a H,b[i]?=⇑x->c[i]?=⇑y->H p=none->d i a H->q ↥p a (aO H p (.tup [x,y])) fun h j=>r (D.lp (d (i+1))) h j) (z:∀ a H,d ↑b a H->D.nx a H) :
  ∃ W:Nat->Nat->_L2.St->Hp->Prop,(∃ m,W 0 m a H)/\∀ i m a H,W i m a H->
   ((eg K k f g).stop i H/\D.nx a H)\/((eg K k f g).go i H/\∃ N:_L2.St->Hp->Prop,(∀ l e,N l e->∃ t,t<m/\W (i+1) t l e)/\∀ x e,(eg K k f g).OG i H x e->q x a e fun h j=>r (D.lp N) h j):=by
 refine⟨λi m a H=>m=↑b-i/\i<=↑b/\d i a H,⟨↑b,by simp,mR _,u⟩,?_⟩;rintro i m a H ⟨rfl,s,p⟩;let⟨n,o⟩:=v i a H s p;by_cases s:i<↑b
 ·let A:i<↑c:=by lia
  refine .inr ⟨⟨b,c,b[i],c[i],n,o,by simp[s],by simp[A]⟩,d (i+1),fun l e A=>⟨↑b-(i+1),by lia,1,s,A⟩,λx e y=>?_⟩;let⟨B,C,F,G,rfl,rfl,s,A⟩:=y;exact w i C F B a _ (s b n) (A c o) G p
 ·let A:i=↑b:=by lia
  subst A;exact .inl ⟨⟨b,c,n,o,.inl (fF _)⟩,z a H p⟩
def CC(lo:Int)(n:Nat):List V:=(List.range n).map λi:Nat=>V.int (lo+i)
section
variable {X:Cx}
def FW:jB X (.type "y") (λa H Q=>∃ i j:Int,a=[.int i,.int j]/\∀ p,H p=none->Q ↥p (aO H p (.Fq i j))):=by
 intro c s d H a e Q I r h;let⟨i,j,rfl,q⟩:=h;let⟨f,g,rfl,⟨t,rfl⟩,⟨b,rfl⟩⟩:=r.two;refine call_range_2 ⟨↥s⁻¹,_,I.laid (o:=.Fq i j) (λc o e=>Heap.get?_push_of_some _ e) (fF _) ⟨t,b,s.toks,Heap.get?_push_size _ rfl⟩,1,q _ (I.hok.fresh (fF _))⟩
theorem tH(h:X.calm=true):jB X (.type "h") (λc H Q=>∃ p i j,c=[↥p]/\H p=⇑(.Fq i j)/\(-(2^62)<=i/\i<2^62/\-(2^62)<=j/\j<2^62)/\(j-i).toNat<=sizeLine/\
  ∀ l,H l=none->Q ↥l (aO H l (.lst (CC i (j-i).toNat)))):=by
 intro D s F H c a Q I r d;let⟨p,i,j,rfl,hp,⟨m,o,q,w⟩,x,y⟩:=d;let⟨u,rfl,z⟩:=r.one;cases (show u=Value.ref p from z);let⟨t,u,v,e⟩:=(show gn X.prog X.w H s.heap p (.Fq i j) from I.hok p _ hp)
 let A:Builtin.Range.rangeSize i j 1=(((j-i).toNat:Nat):Int):=by rw[rangeSize_one];split <;> lia
 let d:(j-i).toNat<=2^24:=by have:=sizeLine_eq;lia
 refine call_list_range (I.ok.hd h) e (small_one m o q w) A d λw m d o q r f=>?_;refine⟨↥s⁻¹,_,I.laid (o:=.lst (CC i (j-i).toNat)) (t':=m) q (fF _) ⟨?_,d.toList,o,?_,by simpa using r⟩,1,y _ (I.hok.fresh (fF _))⟩
 ·unfold CC;simpa using x
 ·let b:↑d.toList=(j-i).toNat:=by simpa using f.1
  let B:∀ (n:Nat) (a:WP) (lo:Int),↑a=n->(∀ k v,a[k]?=⇑v->∃ t,v=Value.int (lo+(k:Nat)*1) t)->cK ((List.range n).map λi:Nat=>V.int (lo+i)) a:=by
   intro n
   induction n with
   | zero=>intro a lo b _;cases a with
    | nil=>exact .nil
    | cons=>simp at b
   | succ n C =>
    intro a lo b g
    cases a with
    | nil=>simp at b
    | cons u a =>
     rw[List.range_succ_eq_map,iu,nE];refine .cons ?_ ?_
     ·let⟨t,e⟩:=g 0 u rfl;exact⟨t,by rw[e];simp⟩
     ·have:=C a (lo+1) (by simpa using b) λk v e=>by
       let⟨t,a⟩:=g (k+1) v (by simpa using e);exists t;rw[a];have:lo+((k+1:Nat):Int)*1=lo+1+(k:Int)*1:=by lia
       rw[this]
      let a:((λi:Nat=>V.int (lo+i)) ∘ Nat.succ)=λi:Nat=>V.int (lo+1+i):=by
       funext i;simp only[Function.comp,Nat.succ_eq_add_one];have:lo+((i+1:Nat):Int)=lo+1+(i:Int):=by lia
       rw[this]
      rw[a];exact this
  exact B _ _ i b λk v e=>f.2 k v (by simpa using e)
end
section
variable {X:Cx}
def Pp{j:Int}(a:0<j)(b:j<10^70):j.natAbs.log2<9000:=by
 let h:j.natAbs<2^9000:=Nat.lt_trans (show j.natAbs<10^70 by lia) nofun;exact (Nat.log2_lt ∅).mpr h
theorem zQ:tV X (binaryOp .FloorDiv) (rI (λ_ j=>0<j/\j<10^70) λi j=>.int (i / j)):=eI λi j _ _ _ _ _ a q=>by
 let b:(0:Int)<j:=a.1;exact floordiv_int ∅ (by rw[Int.fdiv_eq_ediv_of_nonneg i ∅];exact q) (.inl (PyProof.noPylong_of_log2 (Pp a.1 a.2)))
def FY(g:X.calm=true):jB X (.builtin "sum") (λd H Q=>∃ (p:Addr) (a:Wp),d=[↥p]/\bJ X.K H p (a.map V.int)/\Q (.int a.sum) H):=by
 intro j s l H d m Q I r h;let⟨p,a,rfl,i,q⟩:=h;let⟨u,rfl,b⟩:=r.one;cases (show u=Value.ref p from b);let⟨b,h,j,l⟩:=I.list i;let e:IntsAre b a:=intsAre_of h;let h:AllInts b.toArray:=e.allInts;let⟨i,k⟩:=h.items;let f:=j.isList;let c:(numsOf b.toArray.toList).sum=a.sum:=by rw[show b.toArray.toList=b from rfl,e.numsOf]
 rw[k]at f c;rw[nums_intItems]at c;refine PySem.sum_intListG (I.ok.hd g) f λf h b e=>⟨.int a.sum,H,I.kept e,⟨b,?_⟩,q⟩;rw[preSum_eq,qv (by simp),c]
end
end _cN
namespace _gE
abbrev Row:=List (Int × Int)
def iS(t:Row)(s e:Int):Row :=
 match t.getLast? with
 | some p=>if p.2=s then t.dropLast++[(p.1,e)] else t++[(s,e)]
 | none=>t++[(s,e)]
def eL(t:Row)(p:Int × Int):Row:=if p.1=p.2 then t else iS t p.1 p.2
def cJ(r:Row):Row:=r.foldl eL []
def run(s:Int):Nat->List Int
 | 0=>[]
 | n+1=>s::run (s+1) n
def gG(p:Int × Int):Wp:=run p.1 (p.2-p.1).toNat
def bg(r:Row):Wp:=r.flatMap gG
def cy(a:Wp):Row:=a.foldl (λt n=>iS t n (n+1)) []
def fC(s:Int)(n:Nat):↑(run s n)=n:=by
 induction n generalizing s with
 | zero=>rfl
 | succ n a=>simp[run,a]
theorem jc(s e:Int):iS [] s e=[(s,e)]:=rfl
def jd(t:Row){q:Int × Int}{s:Int}{e:Int}(h:q.2=s):iS (t++[q]) s e=t++[(q.1,e)]:=by
 simp[iS,h]
def je(t:Row){q:Int × Int}{s:Int}{e:Int}(h:¬ q.2=s):iS (t++[q]) s e=t++[q]++[(s,e)]:=by
 simp[iS,h]
def MQ(t:Row)(a s e:Int):iS (t++[(a,s)]) s e=t++[(a,e)]:=by
 simp[iS]
def zR(t:Row)(a s:Int)(n:Nat):(run s n).foldl (λt n=>iS t n (n+1)) (t++[(a,s)])=t++[(a,s+n)]:=by
 induction n generalizing s with
 | zero=>simp[run]
 | succ n b =>
  rw[run,j5,MQ,b];have:s+1+(n:Int)=s+((n+1:Nat):Int):=by lia
  rw[this]
def Pq(t:Row)(p:Int × Int)(h:p.1<=p.2):eL t p=(gG p).foldl (λt n=>iS t n (n+1)) t:=by
 let⟨s,e⟩:=p;simp only at h;unfold eL gG;by_cases a:s=e
 ·subst a;simp[run]
 ·obtain⟨n,b⟩:∃ n:Nat,e=s+1+n:=⟨(e-s-1).toNat,by lia⟩;subst b;rw[if_neg a];let a:((s,s+1+(n:Int)).2-(s,s+1+(n:Int)).1).toNat=n+1:=by simp only;lia
  rw[a,run,j5];simp only;rcases lY t with rfl|⟨u,q,rfl⟩
  ·rw[jc,jc];exact (zR [] s (s+1) n).symm
  ·by_cases a:q.2=s
   ·rw[j3,jd u a,jd u a,zR]
   ·rw[j3,je u a,je u a,zR]
theorem m7{d e b:Type}(f:b->e->b)(g:d->List e):∀ (l:List d) (c:b),(l.flatMap g).foldl f c=l.foldl (λc a=>(g a).foldl f c) c
 | [],_=>rfl
 | a::l,c=>by rw[i7,List.foldl_append,j5,m7 f g l]
def oG(r:Row)(h:∀ p∈r,p.1<=p.2):cJ r=cy (bg r):=by
 unfold cJ cy bg;rw[m7]
 let a:∀ (r:Row),(∀ p∈r,p.1<=p.2)->∀ t:Row,r.foldl eL t=r.foldl (λc b=>(gG b).foldl (λt n=>iS t n (n+1)) c) t:=by
  intro r
  induction r with
  | nil=>intro _ t;rfl
  | cons p r b =>
   intro h t;rw[j5,j5,Pq t p (h p (qx ..))];exact b (λq b=>h q (j0 _ b)) _
 exact a r h []
def yb(t:Row)(s e:Int):↑(iS t s e)<=↑t+1:=by
 rcases lY t with rfl|⟨u,q,rfl⟩
 ·rw[jc];simp
 ·by_cases a:q.2=s
  ·rw[j3,jd u a];simp
  ·rw[j3,je u a];simp
def foldl_take_succ{a b:Type}(f:b->a->b)(l:List a)(c:b)(i:Nat)(x:a)(h:l[i]?=⇑x):(l.take (i+1)).foldl f c=f ((l.take i).foldl f c) x:=by
 rw[List.take_add_one,h,List.foldl_append];rfl
end _gE
namespace _gE
def jm(r:Row):Int:=(r.map λp=>p.2-p.1).sum
theorem Tp:jm []=0:=rfl
def FZ(p:Int × Int)(r:Row):jm (p::r)=(p.2-p.1)+jm r:=by simp[jm]
def Pr(r:Row)(p:Int × Int):jm (r++[p])=jm r+(p.2-p.1):=by simp[jm]
def zS(r q:Row):jm (r++q)=jm r+jm q:=by simp[jm]
def take_snoc{a:Type}{l:List a}{i:Nat}{x:a}(h:l[i]?=⇑x):l.take (i+1)=l.take i++[x]:=by rw[List.take_add_one,h];rfl
end _gE
namespace _gE
def oH(s:Int)(n:Nat):run s (n+1)=run s n++[s+n]:=by
 induction n generalizing s with
 | zero=>simp[run]
 | succ n a =>
  rw[run,a,run];have:s+1+(n:Int)=s+((n+1:Nat):Int):=by lia
  rw[this];rfl
def CF{a n:Int}(h:a<=n):gG (a,n+1)=gG (a,n)++[n]:=by
 unfold gG;let e:((a,n+1).2-(a,n+1).1).toNat=((a,n).2-(a,n).1).toNat+1:=by simp only;lia
 rw[e,oH];have:a+((((a,n).2-(a,n).1).toNat:Nat):Int)=n:=by simp only;lia
 simp only at this ⊢;rw[this]
def F0(n:Int):gG (n,n+1)=[n]:=by
 have:=CF (a:=n) (n:=n) (Int.le_refl _);rw[this];let e:gG (n,n)=[]:=by unfold gG;simp[run]
 rw[e];rfl
def cZ(r q:Row):bg (r++q)=bg r++bg q:=by unfold bg;rw[List.flatMap_append]
def fQ(p:Int × Int):bg [p]=gG p:=by simp[bg]
def Ji(t:Row)(n:Int)(h:∀ p∈t,p.1<=p.2):bg (iS t n (n+1))=bg t++[n]:=by
 rcases lY t with rfl|⟨u,q,rfl⟩
 ·rw[jc,fQ,F0];rfl
 ·rw[j3]at h ⊢;by_cases a:q.2=n
  ·let⟨b,c⟩:=q;simp only at a;subst a;let d:b<=c:=h (b,c) (by simp);rw[jd u rfl,cZ,cZ,fQ,fQ,CF d,j4]
  ·rw[je u a,cZ,fQ,F0]
def Lx(t:Row)(n:Int)(h:∀ p∈t,p.1<=p.2):∀ p∈iS t n (n+1),p.1<=p.2:=by
 rcases lY t with rfl|⟨u,q,rfl⟩
 ·rw[jc];intro p a;simp at a;subst a;show n<=n+1;lia
 ·rw[j3]at h ⊢;by_cases b:q.2=n
  ·rw[jd u b];intro p a;rcases List.mem_append.mp a with z|z
   ·exact h p (nC _ z)
   ·simp at z;subst z;have:=h q (by simp);show q.1<=n+1;lia
  ·rw[je u b];intro p a;rcases List.mem_append.mp a with z|z
   ·exact h p z
   ·simp at z;subst z;show n<=n+1;lia
def dm(a:Wp):bg (cy a)=a:=by
 let b:∀ (a:Wp) (t:Row),(∀ p∈t,p.1<=p.2)->bg (a.foldl (λt n=>iS t n (n+1)) t)=bg t++a:=by
  intro a
  induction a with
  | nil=>intro t _;simp
  | cons n a c =>
   intro t h;rw[j5,c _ (Lx t n h),Ji t n h,j4];rfl
 have:=b a [] (λp c=>by cases c);simpa [cy,bg] using this
def jf(a:Wp):∀ p∈cy a,p.1<=p.2:=by
 let b:∀ (a:Wp) (t:Row),(∀ p∈t,p.1<=p.2)->∀ p∈a.foldl (λt n=>iS t n (n+1)) t,p.1<=p.2:=by
  intro a
  induction a with
  | nil=>intro t h;exact h
  | cons n a c=>intro t h;exact c _ (Lx t n h)
 exact b a [] (λp c=>by cases c)
end _gE
namespace _gE
def yc(p:Int × Int)(h:p.1<=p.2):(↑(gG p):Int)=p.2-p.1:=by
 unfold gG;rw[fC];lia
theorem rE:∀ (r:Row),(∀ p∈r,p.1<=p.2)->(↑(bg r):Int)=jm r
 | [],_=>rfl
 | p::r,h=>by
  let a:=rE r λq a=>h q (j0 _ a);have a:=yc p (h p (qx ..));have e:bg (p::r)=gG p++bg r:=rfl;rw[e,cY,FZ];lia
end _gE
namespace _gE
open _L2 _cN
structure cB(K:Frag)(mg:Ya)(x:Str)(st:Stmt)(ps:UV)(a:Addr)(d:FuncData):Prop where
 F:O9 K x x st a d
 b:Binds K d ps []
 m:mg x=⇑↥a
section
variable {X:Cx}
theorem aF{x:Str}{h:Stmt}{b:UV}{f:Addr}{j k:Nat}{c:Sp}{e:Expr}{a:List Expr}{t:TA}{p g:Pos}(d:cB X.K X.mg x h b f i)(G:aZ X.prog X.w X.K X.mg X.zt cQ k f i b c)(l:jr j X.A)
  (m:PA X (e::a) t) (n:k<=j:=by first|decide|lia) (o:Gl X x:=by rfl) (q:(x == ("u":Str))=false:=by decide) (r:starEach (e::a) X.env=(false,eval e X.env)::starEach a X.env:=by rfl)
  (u:(backTo g (starEach a X.env)).any (·.1)=false:=by rfl):PE X (.Call (.Name x p) (e::a) [] g) (Ld c [] E0 t) :=
 Lg G (l.mono n) o d.m d.F.kp d.b .nil bH m q r u
theorem wB{b:Stmt}{t c:TS}(h:PS X b t)(d:∀ D a H,c D a H->t D a H):PS X b c:=λe s a H D I q=>h e s a H D I (d D a H q)
end
def cD(l:Addr)(H b:Hp):Prop:=∀ a o,H a=⇑o->a≠l->b a=⇑o
theorem aJ.keep{l:Addr}{H a:Hp}(s:aJ H a):cD l H a:=λb o e _=>s b o e
theorem cD.refl(l:Addr)(H:Hp):cD l H H:=λ_ _ e _=>e
theorem cD.trans{l:Addr}{H a b:Hp}(d:cD l H a)(e:cD l a b):cD l H b:=λc o f n=>e c o (d c o f n) n
theorem aI(l:Addr)(H:Hp)(o:HO):cD l H (aO H l o):=λa u e n=>by rw[aN n];exact e
theorem bQ{l:Addr}{H a b:Hp}(h:H l=none)(d:aJ H a)(f:cD l a b):aJ H b:=λc o e=>f c o (d c o e) (aB e h)
theorem ao{H:Hp}{p:Addr}(h:H p=none)(o:HO):aJ H (aO H p o):=λb u q=>by rw[aN (aB q h)];exact q
def gW{l a:Addr}{H b:Hp}(k:cD l H b)(n:a≠l)(h:b a=none):H a=none:=by
 cases q:H a with
 | none=>rfl
 | some o=>rw[k a o q n]at h;cases h
def dM(H:Hp)(l c:Addr):Prop:=c≠l/\∃ (a:Wp) (i d r:Int),H l=⇑(.lst [↥c,.int i,.int d,.int r])/\H c=⇑(.lst (a.map V.int))/\0<=i/\0<=r/\r<2147483647
def dM.same{H a:Hp}{l c:Addr}(s:dM H l c)(k:aJ H a):dM a l c:=by
 let⟨n,b,i,d,r,e,f,g⟩:=s;exact⟨n,b,i,d,r,k _ _ e,k _ _ f,g⟩
def dM.keep{H a:Hp}{l c m:Addr}(s:dM H l c)(k:cD m H a)(b:l≠m)(d:c≠m):dM a l c:=by
 let⟨n,e,i,f,r,g,h,j⟩:=s;exact⟨n,e,i,f,r,k _ _ g b,k _ _ h d,j⟩
def dM.ne{H:Hp}{l c a:Addr}(s:dM H l c)(h:H a=none):l≠a/\c≠a:=by
 let⟨n,e,i,f,r,b,d,g⟩:=s;exact⟨aB b h,aB d h⟩
def dM.has{H:Hp}{l c:Addr}(s:dM H l c):(∃ o,H l=⇑o)/\∃ o,H c=⇑o:=by
 let⟨n,d,i,e,r,a,b,f⟩:=s;exact⟨⟨_,a⟩,⟨_,b⟩⟩
theorem iq{a b c d:V}:oU [a,b,c,d] 0=⇑a:=rfl
theorem XQ{a b c d:V}:oU [a,b,c,d] 1=⇑b:=rfl
theorem Tq{a b c d:V}:oU [a,b,c,d] 2=⇑c:=rfl
theorem iw{a b c d:V}:oU [a,b,c,d] 3=⇑d:=rfl
theorem DP{a b:V}:oU [a,b] 0=⇑a:=rfl
theorem Jj{a b:V}:oU [a,b] 1=⇑b:=rfl
class inductive uf
 | mk (l d:Addr) (b:Int) (_:vs=[↥l,.int b]) (_:dM H l d) (_:0<b) (_:b<10^70) (_ :
 ∀ (v:Int) (c:Hp),0<=v->v<b->dM c l d->(∀ a,a≠l->c a=H a)->Q (.int v) c):uf vs H Q E
class inductive VU(K:Frag)
 | mk (a:Addr) (d:Wp) (_:vs=[↥a]) (_:bJ K H a (d.map V.int)) (_ :
 ∀ (l c:Addr) (b:Hp),dM b l c->aJ H b->H l=none->H c=none->Q ↥l b)
def tf:V->Bool
 | .int _ | .bl _ | .str _ | .gc=>true
 | _=>false
def Pu(k:Bool)(H:Hp)(a:Addr)(b:List V):Prop:=match k with
 | true=>H a=⇑(.lst b)
 | false=>H a=⇑(.tup b)
def Pu.same{k:Bool}{H a:Hp}{b:Addr}{c:List V}(h:Pu k H b c)(s:aJ H a):Pu k a b c:=by
 cases k
 ·exact s _ _ h
 ·exact s _ _ h
def Pu.sq{K:Frag}{k:Bool}{H:Hp}{a:Addr}{b:List V}(h:Pu k H a b):Lv K k H a b:=by
 cases k
 ·exact dN.of h
 ·exact bJ.of h
def Eqv(H:Hp):Nat->V->V->Prop
 | 0,_,_=>False
 | n+1,x,y=>(tf x=true/\x=y)\/∃ (k:Bool) (c d:Addr) (a b:List V),x=↥c/\y=↥d/\Pu k H c a/\Pu k H d b/\↑a=↑b/\
   ∀ (i:Nat) (u v:V),a[i]?=⇑u->b[i]?=⇑v->Eqv H n u v
theorem Eqv.same{H a:Hp}(s:aJ H a):∀ {n:Nat} {x y:V},Eqv H n x y->Eqv a n x y
 | 0,_,_,h=>h
 | n+1,x,y,h=>by
  rcases h with h|⟨k,b,c,d,e,f,g,i,j,l,m⟩
  ·exact .inl h
  ·exact .inr ⟨k,b,c,d,e,f,g,i.same s,j.same s,l,λi u v b c=>Eqv.same s (m i u v b c)⟩
theorem Eqv.int{H:Hp}{n:Nat}(i:Int):Eqv H (n+1) (.int i) (.int i):=.inl ⟨V⟩
def zT(n:Nat):Sp:=λa H Q _=>∃ x y,a=[x,y]/\Eqv H n x y/\∀ a,aJ H a->Q (.bl true) a
class inductive Ly
 | mk (i:Int) (_:vs=[.int i]) (_:Q (.bl true) H)
section
variable (K:Frag)
def i3:kitOne K (.type "bool") (.type "bool")=⇑true:=by rfl
def i4:kitOne K (.type "int") (.type "bool")=⇑false:=by kernel_rfl
def i5:kitOne K (.type "int") (.type "int")=⇑true:=by rfl
def tj:kitOne K (.type "str") (.type "bool")=⇑false:=by kernel_rfl
def tk:kitOne K (.type "str") (.type "int")=⇑false:=by kernel_rfl
def i':kitOne K (.type "str") (.type "str")=⇑true:=by rfl
def tm:kitOne K (.type "h") (.type "bool")=⇑false:=by kernel_rfl
def tq:kitOne K (.type "h") (.type "int")=⇑false:=by kernel_rfl
def ts:kitOne K (.type "h") (.type "str")=⇑false:=by kernel_rfl
def jl:kitOne K (.type "h") (.type "h")=⇑true:=by rfl
def k_lt:kitOne K (.type "h") (.type "s")=⇑false:=by kernel_rfl
def tu:kitOne K (.type "s") (.type "bool")=⇑false:=by kernel_rfl
def tz:kitOne K (.type "s") (.type "int")=⇑false:=by kernel_rfl
def tA:kitOne K (.type "s") (.type "str")=⇑false:=by kernel_rfl
def tI:kitOne K (.type "s") (.type "h")=⇑false:=by kernel_rfl
def tJ:kitOne K (.type "s") (.type "s")=⇑true:=by rfl
end
def ZF(k:Bool):Value:=.type (if k then "h" else "s")
def Pu.ty{K:Frag}{k:Bool}{H:Hp}{a:Addr}{b:List V}(h:Pu k H a b):kK K H ↥a (ZF k):=by
 cases k
 ·exact kK.tup h
 ·exact kK.lst h
def tU(K:Frag)(k:Bool):kitOne K (ZF k) (.type "bool")=⇑false:=by cases k;exact tu K;exact tm K
def t5(K:Frag)(k:Bool):kitOne K (ZF k) (.type "int")=⇑false:=by cases k;exact tz K;exact tq K
def ub(K:Frag)(k:Bool):kitOne K (ZF k) (.type "str")=⇑false:=by cases k;exact tA K;exact ts K
def jp(K:Frag)(k:Bool):kitOne K (ZF k) (.type "h")=⇑k:=by cases k;exact tI K;exact jl K
def js(K:Frag)(k:Bool):kitOne K (ZF k) (.type "s")=⇑(!k):=by cases k;exact tJ K;exact k_lt K
def ki(H:Hp)(a:Addr)(p:Int × Int):Prop:=H a=⇑(.tup [.int p.1,.int p.2])
abbrev bx(H:Hp):List Addr->Row->Prop:=Paired (ki H)
inductive bU(H:Hp)(r:Addr)(row:Row):Prop
 | mk (a:WF) (_:H r=⇑(.lst (a.map V.ref))) (_:bx H a row)
theorem bx.tups{H b:Hp}{c:WF}{d:Row}(h:bx H c d)(t:∀ a e,H a=⇑(.tup e)->b a=⇑(.tup e)):bx b c d:=Paired.Dv h λa p f=>t a _ f
theorem bx.same{H a:Hp}{b:WF}{c:Row}(h:bx H b c)(s:aJ H a):bx a b c:=h.tups λd f e=>s d _ e
def bU.same{H a:Hp}{r:Addr}{b:Row}(h:bU H r b)(s:aJ H a):bU a r b:=by
 let⟨c,d,e⟩:=h;exact⟨c,s _ _ d,e.same s⟩
theorem bx.keep{H a:Hp}{b:WF}{c:Row}{l:Addr}{d:List V}(h:bx H b c)(f:H l=⇑(.lst d))(s:cD l H a):bx a b c :=
 h.tups λg i e=>s g _ e (cS e f)
def bU.keep{H a:Hp}{r:Addr}{b:Row}{l:Addr}{c:List V}(h:bU H r b)(d:H l=⇑(.lst c))(n:r≠l)(s:cD l H a):bU a r b:=by
 let⟨e,f,g⟩:=h;exact⟨e,s _ _ f n,g.keep d s⟩
theorem bx.get{H:Hp}:∀ {b:WF} {row:Row} {i:Nat} {a:Addr},bx H b row->b[i]?=⇑a->∃ p,row[i]?=⇑p/\ki H a p
 | _,_,_,_,.nil,e=>by simp at e
 | _,_,0,_,.cons r _,e=>by simp at e;subst e;exact⟨Y,r⟩
 | _,_,i+1,a,.cons _ t,e=>by
  let⟨p,c,d⟩:=bx.get (i:=i) (a:=a) t (by simpa using e);exact⟨p,by simpa using c,d⟩
def bx.snoc{H:Hp}{a:WF}{b:Row}{c:Addr}{p:Int × Int}(h:bx H a b)(e:ki H c p):bx H (a++[c]) (b++[p]):=by
 induction h with
 | nil=>exact .cons e .nil
 | cons r _ d=>exact .cons r d
theorem bx.split{H:Hp}:∀ {as:WF} {row:Row} {p:Int × Int},bx H as (row++[p])->∃ a b,as=a++[b]/\bx H a row/\ki H b p
 | as,[],p,h=>by
  cases h with
  | cons r t=>cases t;exact⟨[],Y,.nil,r⟩
 | as,q::row,p,h=>by
  cases h with
  | cons r t =>
   let⟨a,b,rfl,c,d⟩:=bx.split (row:=row) (p:=p) t;exact⟨_::a,b,1,.cons r c,d⟩
theorem bx.len{H:Hp}{a:WF}{b:Row}(h:bx H a b):↑a=↑b:=Paired.length h
theorem gX{a:Type}(b:List a)(v:a):oU (b++[v]) (-1)=⇑v:=OU b v
def F1(n:Nat):Lk (n+1) (-1)=⇑n:=by
 unfold Lk;rw[if_neg (by decide),if_pos ∅];congr 1;lia
def zU{b:Type}(a:List b)(d c:b):(a++[d]).set ↑a c=a++[c]:=by
 simp
def zV(lo:Int)(n:Nat):CC lo n=(run lo n).map V.int:=by
 unfold CC
 induction n generalizing lo with
 | zero=>rfl
 | succ n a =>
  rw[List.range_succ_eq_map,iu,nE,run,iu,← a (lo+1)];congr 1
  ·simp
  ·apply uN;intro i _;simp only[Function.comp,Nat.succ_eq_add_one];congr 1;lia
class inductive Tr(lim:Nat)
 | mk (r:Addr) (a:Row) (_:vs=[↥r]) (_:bU H r a) (_:(∀ p∈a,0<=p.1/\p.1<=p.2/\p.2<2^62)) (_:↑(bg a)<=1000000) (_:↑a<=lim) (_ :
 ∀ (n:Addr) (b:Hp),b n=⇑(.lst ((bg a).map V.int))->aJ H b->H n=none->Q ↥n b)
class inductive Tt
 | mk (n:Addr) (a:Wp) (_:vs=[↥n]) (_:H n=⇑(.lst (a.map V.int))) (_:↑a<=1000000) (_ :
 ∀ (r:Addr) (b:Hp),bU b r (cy a)->aJ H b->H r=none->Q ↥r b)
class inductive Tu
 | mk (r:Addr) (a:Row) (_:vs=[↥r]) (_:bU H r a) (_:↑a<=1000000) (_ :
 ∀ (q:Addr) (b:Hp),bU b q (cJ a)->aJ H b->H q=none->Q ↥q b)
theorem aQ{n:Nat}(h:n<=1000001):n<sizeLine:=Nat.lt_of_le_of_lt h (by decide)
end _gE
namespace _gE
open _L2 _cN
def XR:TS:=λD a H=>∃ (l c:Addr) (d:Int),a=[⇑↥l,⇑(.int d),none,none]/\dM H l c/\
 ∀ (e:Option V) (a:Hp),dM a l c->(∀ b,b≠l->a b=H b)->D.nx [⇑↥l,⇑(.int d),e,none] a
def XS:TS:=λD a H=>∃ (l c:Addr) (d:Int),a=[⇑↥l,⇑(.int d),⇑(.int 7),none]/\dM H l c/\
 ∀ (e:Int) (a:Hp),dM a l c->(∀ b,b≠l->a b=H b)->D.nx [⇑↥l,⇑(.int d),⇑(.int e),none] a
def Tv{a:Wp}{i:Int}(c:0<=i)(d:i<(↑a:Int)):∃ v:Int,oU (a.map V.int) i=⇑(.int v):=by
 let b:i.toNat<↑a:=by lia
 exists a[i.toNat]
 let q:oU (a.map V.int) ((i.toNat:Nat):Int)=⇑(.int a[i.toNat]):=dh (by rw[kB,nT b] <;> rfl)
 let b:((i.toNat:Nat):Int)=i:=by lia
 rw[b]at q;exact q
def Px(a:Wp)(lo b:Option Int):∃ c:List Int,kL (a.map V.int) lo b=c.map V.int:=by
 unfold kL;exists (a.drop (_HT.ji ↑(a.map V.int) 0 lo)).take (_HT.ji ↑(a.map V.int) ↑(a.map V.int) b-_HT.ji ↑(a.map V.int) 0 lo);rw[List.map_take,List.map_drop]
def tt{p:Prop} [Decidable p] {Q:V->Hp->Prop} {H:Hp} (a:p) (h:Q (.bl true) H):Q (.bl (decide p)) H:=by
 rw[decide_eq_true a];exact h
def Pu.or{K:Frag}{k:Bool}{H:Hp}{a:Addr}{b:List V}(h:Pu k H a b):bJ K H a b\/dN K H a b:=by
 cases k
 ·exact .inr (dN.of h)
 ·exact .inl (bJ.of h)
theorem bO{l:Addr}{H b:Hp}(k:∀ a,a≠l->b a=H a):cD l H b:=λa o e n=>by rw[k a n];exact e
end _gE
namespace _gE
open _L2 _cN
def dM.lst{H:Hp}{l c:Addr}(s:dM H l c):∃ a,H l=⇑(.lst a):=by
 let⟨n,d,i,e,r,b,_⟩:=s;exact⟨_,b⟩
end _gE
namespace _cN
open Spec Rows _L2
section
variable {prog:Program} {w:World} {A:Around} {R:X2} {s:Shared}
def rF(b:List Expr)(a:Env):Sem Bool:=forIn b true λc r=>if r=true then do let ok ← isTrue c a (eval c a);pure (ForInStep.yield ok) else pure (ForInStep.yield r)
theorem MR{i:Expr}{j:Scope}{c d:Value}{b:Env}(I:Nat->Shared->Prop)
  (z:∀ n s,I n s->wpAny (model prog w) A (pyNext c) (λr e=>match r with
   | none=>R (.ok .next) e
   | some v=>wpAny (model prog w) A (letOwnedTupleGo f c v) (λ_ k=>wpAny (model prog w) A (assign f b v) (λ_ l =>
     wpAny (model prog w) A (rF o b) (λg h =>
      if g=true then wpAny (model prog w) A (eval p b) (λx q=>wpAny (model prog w) A (call (.builtin "list.append") [d,x]) (λ_ t=>∃ m,m<n/\I m t) (λ_ _=>False) q) (λ_ _=>False) h
      else ∃ m,m<n/\I m h) (λ_ _=>False) l) (λ_ _=>False) k) (λ_ _=>False) e) (λ_ _=>False) s)
  (n:Nat) (B:I n s):codeAny (model prog w) A (.compLoop (.ListComp p [⟨f,i,o,0⟩] j C) 0 c d b) R s:=by
 refine codeAny_loop rfl I (λn s D=>?_) n B;show wpAny _ A ((compTurn (.ListComp p [⟨f,i,o,0⟩] j C) 0 c d b).onRaise (λx=>do noteFrame x b;theTreesLotGoes x)) _ _ s;refine wpAny_noted ?_;rw[compTurn_list];refine wpAny_bind (wpAny_standAt (wpAny_bind (wpAny_mono (z n s D) (λr e u=>?_) λ_ _ a=>a.elim)))
 cases r with
 | none=>exact wpAny_pure u
 | some v =>
  refine wpAny_bind (wpAny_mono u (λ_ k u=>wpAny_bind (wpAny_mono u (λ_ l u=>wpAny_bind (wpAny_mono u (λg h y=>?_) λ_ _ a=>a.elim)) λ_ _ a=>a.elim)) λ_ _ a=>a.elim)
  cases g with
  | false=>exact wpAny_pure ⟨1,y⟩
  | true=>exact wpAny_bind (wpAny_bind (wpAny_mono y (λx q u=>wpAny_bind (wpAny_mono u (λ_ t u=>wpAny_pure (wpAny_pure ⟨1,u⟩)) λ_ _ a=>a.elim)) λ_ _ a=>a.elim))
end
section
variable {X:Cx} {N:UV} {scope:Scope}
def MS(X:Cx)(c:List Expr)(t:TT):Prop :=
 ∀ (b:List (Addr × Obj)) (s:Shared) (a:_L2.St) (H:Hp) (Q:Bool->Hp->Prop),Inv X b a H s->t a H Q->wpAny (model X.prog X.w) X.A (rF c X.env) (TP X b a Q) X.xe s
def MT:TT:=λ_ H Q=>Q true H
theorem gU:MS X [] MT:=λa s b H Q I h=>wpAny_tests_nil ⟨H,I,h⟩
theorem rG{c:Expr}{t:TT}(h:PT X c t):MS X [c] t:=λa s b H Q I q=>wpAny_tests_one (h a s b H Q I q)
end
end _cN
namespace _cN
open Spec Rows _L2
theorem MU{P:Program}{B:World}{K:Frag}(b:Addr)(lo:Int)(n:Nat):IL P B K M (K9 lo n) [b] b (λi h=>IsLongIter h b (lo+(i:Nat)*1) ((n:Int)-(i:Nat)) 1) where
 mem:=by simp
 obj:=λi h a c d=>by
  let e:c=b:=by simpa using d
  subst e
  exact⟨_,a,λw z=>by
   let f:Data.fields _=Data.cell w:=z
   cases f⟩
 keep:=λi h f a C=>C b (by simp) _ a
 item:=by
  intro X j k l m i x s y H E I g a o;subst j k l;let⟨p,q,D,r,t,u⟩:=g b (by simp);let W:=Walks.longrange (prog:=X.prog) (w:=X.w) (I.ok.hd m) b lo 1 n;refine W.item i s _ _ o a λw f z F A G=>?_;let⟨J,rfl⟩:=F;have L:Inv X x y H { s with heap:=f,toks:=z }:=I.turned (λc v d e=>G c v (by simpa using d) e) p q r t u;refine⟨Y,FH (s:={ s with heap:=f,toks:=z }) (n:="longrange_iterator") A rfl rfl (by decide) ⟨.int (lo+i),H,L,⟨J,?_⟩,⟨V⟩,A,λc d=>(g c d).1⟩⟩;rw[Int.mul_one]
 done:=by
  intro X j k l m i x s y H E I g a o;subst j k l;let⟨p,q,D,r,t,u⟩:=g b (by simp);exact wpAny_pyNext_long_end (I.ok.hd m) a (by have:n<=i:=o;lia) λf f=>⟨1,I.turned (t':=s.toks) (λc v d e=>f c v d e) p q r t u⟩
 self:=λ_ _ _ _ _ a h=>wpAny_pyIter_longiter a h
section
variable {X:Cx} {tg:Expr}
theorem MV{g:_L2.St}{H:Hp}{s:Shared}{i:It->Hp->Prop}{E:ZB}{lo a:Int}{t u v:Tok}{c:Nat}(I:Inv X h g H s)
  (q:i (K9 lo (a-lo).toNat) H):wpAny (model X.prog X.w) X.A (pyIter ↥s⁻¹) (fw X h g tg i) E { s with heap:=s.heap.push { cls:=.type "y",data:=.fields (List.toArray [.int lo t,.int a u,.int 1 v]) },toks:=c }:=by
 let d:Inv X h g H { s with heap:=s.heap.push { cls:=.type "y",data:=.fields (List.toArray [.int lo t,.int a u,.int 1 v]) },toks:=c }:=I.kept λb o e=>Heap.get?_push_of_some _ e;have j:lo+((0:Nat):Int)*1=lo:=by simp
 let k:(((a-lo).toNat:Nat):Int)-((0:Nat):Int)=Builtin.Range.rangeSize lo a 1:=by rw[rangeSize_one];split <;> lia
 let l:∀ b∈[(s.heap.push { cls:=.type "y",data:=.fields (List.toArray [.int lo t,.int a u,.int 1 v]) }).objs.size],oZ X h H b:=λb f=>by
  let e:b=(s.heap.push { cls:=.type "y",data:=.fields (List.toArray [.int lo t,.int a u,.int 1 v]) }).objs.size:=by simpa using f
  subst e;exact d.Mw (fF _) (d.hok.fresh (fF _))
 cases f:Builtin.Range.small lo a 1 with
 | true =>
  refine wpAny_pyIter_range (IsRange.new ..) f ?_;refine⟨_,[(s.heap.push { cls:=.type "y",data:=.fields (List.toArray [.int lo t,.int a u,.int 1 v]) }).objs.size],E,H,1,d.kept (t':=c) λb o e=>Heap.get?_push_of_some _ e,yZ _ lo (a-lo).toNat,?_,l,q⟩;show IsRangeIter _ _ (lo+((0:Nat):Int)*1) ((((a-lo).toNat:Nat):Int)-((0:Nat):Int)) 1;rw[j,k];exact Heap.get?_push_size _ rfl
 | false =>
  refine wpAny_pyIter_longrange (IsRange.new ..) f ?_;refine⟨_,[(s.heap.push { cls:=.type "y",data:=.fields (List.toArray [.int lo t,.int a u,.int 1 v]) }).objs.size],E,H,1,d.kept (t':=c) λb o e=>Heap.get?_push_of_some _ e,MU _ lo (a-lo).toNat,?_,l,q⟩;show IsLongIter _ _ (lo+((0:Nat):Int)*1) ((((a-lo).toNat:Nat):Int)-((0:Nat):Int)) 1;rw[j,k];exact Heap.get?_push_size _ rfl
def ui(a:TA):TI:=fun b H R=>a b H λb c=>∃ i j:Int,b=[.int i,.int j]/\R (K9 i (j-i).toNat) c
theorem MW{a b:Expr}{c:TA}{p d:Pos}(f:Gl X "y")(g:X.mg "y"=none)(h:PA X [a,b] c)(i:starEach [a,b] X.env=[(false,eval a X.env),(false,eval b X.env)]:=by rfl)(e:starEach [b] X.env=[(false,eval b X.env)]:=by rfl) :
  PI X tg (.Call (.Name "y" p) [a,b] [] d) (ui c):=by
 intro j s k H R I l;refine Call_ (we I f g boot_range (PyProof.Rows.callWith_type1 (dP (h d j s k H _ I l) λj k ⟨l,t,m,n,o⟩=>?_) (by rw[i,e]) (by rw[e];rfl)));let⟨j,k,q,r⟩:=o;subst q;let⟨u,v,rfl,⟨w,rfl⟩,⟨x,rfl⟩⟩:=n.two;exact call_range_2 (MV m r)
end
end _cN
namespace _cN
open Spec Rows _L2
section
variable {prog:Program} {w:World} {A:Around} {R:X2} {s:Shared}
theorem Tw(d h i b e:Expr)(j f:List Expr)(k:Scope)(l:Pos)(c g:Value)(a:Env) :
  compTurn (.ListComp d [⟨h,i,j,0⟩,⟨b,e,f,0⟩] k l) 1 c g a=(do
   standAt e.pos
   match ← pyNext c with
   | none=>pure (.done .next)
   | some v =>
    letOwnedTupleGo b c v
    assign b a v
    let ok ← rF f a
    if ok then (do let _ ← call (.builtin "list.append") [g,← eval d a])
    again (.compLoop (.ListComp d [⟨h,i,j,0⟩,⟨b,e,f,0⟩] k l) 1 c g a)):=by rfl
theorem Py(g c d h b:Expr)(e i:List Expr)(j:Scope)(k:Pos)(f l:Value)(a:Env) :
  compTurn (.ListComp g [⟨c,d,e,0⟩,⟨h,b,i,0⟩] j k) 0 f l a=(do
   standAt d.pos
   match ← pyNext f with
   | none=>pure (.done .next)
   | some v =>
    letOwnedTupleGo c f v
    assign c a v
    let ok ← rF e a
    if ok then
     let x ← eval b a
     standAt b.pos
     let x ← foldedSetIterable b a x
     let _ ← runOwn (.compStart (.ListComp g [⟨c,d,e,0⟩,⟨h,b,i,0⟩] j k) 1 (← holding [x] (pyIter x)) l a) a
    again (.compLoop (.ListComp g [⟨c,d,e,0⟩,⟨h,b,i,0⟩] j k) 0 f l a)):=by rfl
theorem XT{i:Expr}{j:Scope}{c d:Value}{b:Env}(I:Nat->Shared->Prop)
  (z:∀ n s,I n s->wpAny (model prog w) A (pyNext c) (λr e=>match r with
   | none=>R (.ok .next) e
   | some v=>wpAny (model prog w) A (letOwnedTupleGo f c v) (λ_ k=>wpAny (model prog w) A (assign f b v) (λ_ l =>
     wpAny (model prog w) A (rF o b) (λg h =>
      if g=true then wpAny (model prog w) A (eval p b) (λx q=>wpAny (model prog w) A (call (.builtin "list.append") [d,x]) (λ_ t=>∃ m,m<n/\I m t) (λ_ _=>False) q) (λ_ _=>False) h
      else ∃ m,m<n/\I m h) (λ_ _=>False) l) (λ_ _=>False) k) (λ_ _=>False) e) (λ_ _=>False) s)
  (n:Nat) (B:I n s):codeAny (model prog w) A (.compLoop (.ListComp p [⟨C,i,D,0⟩,⟨f,G,o,0⟩] j H) 1 c d b) R s:=by
 refine codeAny_loop rfl I (λn s F=>?_) n B;show wpAny _ A ((compTurn (.ListComp p [⟨C,i,D,0⟩,⟨f,G,o,0⟩] j H) 1 c d b).onRaise (λx=>do noteFrame x b;theTreesLotGoes x)) _ _ s;refine wpAny_noted ?_;rw[Tw];refine wpAny_bind (wpAny_standAt (wpAny_bind (wpAny_mono (z n s F) (λr e u=>?_) λ_ _ a=>a.elim)))
 cases r with
 | none=>exact wpAny_pure u
 | some v =>
  refine wpAny_bind (wpAny_mono u (λ_ k u=>wpAny_bind (wpAny_mono u (λ_ l u=>wpAny_bind (wpAny_mono u (λg h y=>?_) λ_ _ a=>a.elim)) λ_ _ a=>a.elim)) λ_ _ a=>a.elim)
  cases g with
  | false=>exact wpAny_pure ⟨1,y⟩
  | true=>exact wpAny_bind (wpAny_bind (wpAny_mono y (λx q u=>wpAny_bind (wpAny_mono u (λ_ t u=>wpAny_pure (wpAny_pure ⟨1,u⟩)) λ_ _ a=>a.elim)) λ_ _ a=>a.elim))
theorem Tz{b:Expr}{c:Scope}{d e:Value}{a:Env}
  (p:codeAny (model prog w) A (.compLoop (.ListComp g [⟨h,b,i,0⟩,⟨j,f,k,0⟩] c l) 1 d e a) R s)
  (q:wpAny (model prog w) A (pyIter d) (λm n=>codeAny (model prog w) A (.compLoop (.ListComp g [⟨h,b,i,0⟩,⟨j,f,k,0⟩] c l) 1 m e a) R n) (λ_ _=>False) s) :
  codeAny (model prog w) A (.compStart (.ListComp g [⟨h,b,i,0⟩,⟨j,f,k,0⟩] c l) 1 d e a) R s:=by
 refine codeAny_of_tree ?_;show wpAny _ _ ((compStart (.ListComp g [⟨h,b,i,0⟩,⟨j,f,k,0⟩] c l) 1 d e a).onRaise (λx=>do noteFrame x a;standAt theWindowsPlace)) _ _ s;refine wpAny_notedAt ?_;unfold compStart;show wpAny _ _ (ask >>= _) _ _ s;refine wpAny_bind (wpAny_askSetting (wpAny_ite ?_));split
 ·first
   | exact wpAny_bind (wpAny_pure (wpAny_pure (And.intro rfl p)))
   | exact wpAny_pure (And.intro rfl p)
 ·first
   | exact wpAny_bind (wpAny_rule (wpAny_bind (wpAny_standAt (wpAny_bind (wpAny_mono q (λm n o=>wpAny_pure (And.intro rfl o)) λ_ _ x=>x.elim)))))
   | (refine wpAny_bind (wpAny_rule ?_);show wpAny _ _ (standAt f.pos >>= _) _ _ s;exact wpAny_bind (wpAny_standAt (wpAny_bind (wpAny_mono q (λm n o=>wpAny_pure (And.intro rfl o)) λ_ _ x=>x.elim))))
theorem TH{f:Expr}{g:Scope}{c h:Value}{b:Env}(I:Nat->Shared->Prop)
  (J:∀ x,foldedSetIterable d b x=pure x)
  (L:∀ n s,I n s->wpAny (model prog w) A (pyNext c) (λr i=>match r with
   | none=>R (.ok .next) i
   | some v=>wpAny (model prog w) A (letOwnedTupleGo e c v) (λ_ o=>wpAny (model prog w) A (assign e b v) (λ_ p =>
     wpAny (model prog w) A (rF j b) (λk l =>
      if k=true then wpAny (model prog w) A (eval d b) (λx q=>wpAny (model prog w) A (pyIter x) (λt u =>
       codeAny (model prog w) A (.compStart (.ListComp y [⟨e,f,j,0⟩,⟨z,d,B,0⟩] g C) 1 t h b) (λr D=>(∃ G,r=.ok G)/\∃ m,m<n/\I m D) u) (λ_ _=>False) q) (λ_ _=>False) l
      else ∃ m,m<n/\I m l) (λ_ _=>False) p) (λ_ _=>False) o) (λ_ _=>False) i) (λ_ _=>False) s)
  (n:Nat) (M:I n s):codeAny (model prog w) A (.compLoop (.ListComp y [⟨e,f,j,0⟩,⟨z,d,B,0⟩] g C) 0 c h b) R s:=by
 refine codeAny_loop rfl I (λn s N=>?_) n M;show wpAny _ A ((compTurn (.ListComp y [⟨e,f,j,0⟩,⟨z,d,B,0⟩] g C) 0 c h b).onRaise (λx=>do noteFrame x b;theTreesLotGoes x)) _ _ s;refine wpAny_noted ?_;rw[Py];refine wpAny_bind (wpAny_standAt (wpAny_bind (wpAny_mono (L n s N) (λr i F=>?_) λ_ _ a=>a.elim)))
 cases r with
 | none=>exact wpAny_pure F
 | some v =>
  refine wpAny_bind (wpAny_mono F (λ_ o F=>wpAny_bind (wpAny_mono F (λ_ p F=>wpAny_bind (wpAny_mono F (λk l H=>?_) λ_ _ a=>a.elim)) λ_ _ a=>a.elim)) λ_ _ a=>a.elim)
  cases k with
  | false=>exact wpAny_pure ⟨1,H⟩
  | true =>
   refine wpAny_bind (wpAny_mono H (λx q F=>wpAny_bind (wpAny_standAt (wpAny_bind (wpAny_of_eq (J x) (wpAny_bind (wpAny_holding (wpAny_mono F (λt u F=>?_) λ_ _ a=>a.elim))))))) λ_ _ a=>a.elim);refine wpAny_bind (wpAny_runOwn (codeAny_mono F λr D a=>?_));let⟨⟨G,O⟩,S⟩:=a;subst O;exact wpAny_pure ⟨1,S⟩
end
section
variable {X:Cx} {N:UV} {scope:Scope}
def Jk(g:TI)(d:Addr)(h:TG)(tt:TT)(j:TE):_L2.St->Hp->(_L2.St->Hp->Prop)->Prop:=fun a H b=>g a H λJ c =>
 ∃ W:Nat->Nat->_L2.St->Hp->Prop,(∃ m,W 0 m a c)/\∀ i m a H,W i m a H->
  (J.stop i H/\b a H)\/(J.go i H/\∃ c:_L2.St->Hp->Prop,(∀ e b,c e b->∃ f,f<m/\W (i+1) f e b)/\∀ x b,J.OG i H x b->h x a b fun a e=>tt a e λb e =>
   if b=true then j a e λv f=>∃ b,f d=⇑(.lst b)/\↑b<sizeLine/\c a (aO f d (.lst (b++[v]))) else c a e)
theorem MX{Y:Cx}{G:Expr}{I:TI}{J:TG}{L:TT}{M:TE}(O:Y.calm=true)(U:Y.xe=λ_ _=>False)(hi:PI Y t u I)(hg:PG Y t J)(ht:MS Y ju L)(he:PE Y kG M)
  {d:List (Addr × Obj)} {s:Shared} {m:_L2.St} {H:Hp} {v:_L2.St->Hp->Prop} (ai:Inv Y d m H s) (ak:Jk I n J L M m H v) :
  wpAny (model Y.prog Y.w) Y.A (eval u Y.env) (λx am=>wpAny (model Y.prog Y.w) Y.A (pyIter x) (λan aq =>
   codeAny (model Y.prog Y.w) Y.A (.compStart (.ListComp kG [⟨tg,G,jV,0⟩,⟨t,u,ju,0⟩] scope ar) 1 an ↥n Y.env) (λr w=>(∃ y,r=.ok y)/\∃ c a,Inv Y d c a w/\v c a) aq) (λ_ _=>False) am) (λ_ _=>False) s:=by
 let F:=hi d s m H _ ai ak;let z:=hg;let A:=ht;let B:=he;unfold PG at z;unfold MS at A;unfold PE at B;rw[U]at F z A B;refine dP F λN s1 F=>dP F λaA s2 F=>?_;let⟨it,g,R,aA,H2,h,I2,T,S,X,W,⟨m0,w0⟩,mT⟩:=F;subst h;have C:∀ {a:Hp},(∀ b∈g,a b=none)->∀ b∈g,oZ Y d a b:=λF b e=>⟨F b e,(X b e).2⟩
 let ab:codeAny (model Y.prog Y.w) Y.A (.compLoop (.ListComp kG [⟨tg,G,jV,0⟩,⟨t,u,ju,0⟩] scope ar) 1 ↥it ↥n Y.env) (λr w=>(∃ y,r=.ok y)/\∃ c a,Inv Y d c a w/\v c a) s2:=by
  refine XT (λo f=>∃ i c a,Inv Y d c a f/\R i f.heap/\(∀ b∈g,a b=none)/\W i o c a) ?_ m0 ⟨0,m,H2,I2,S,λb e=>(X b e).1,w0⟩;rintro o s6 ⟨i,j,l,I6,VW,DQ,w6⟩;rcases mT i o j l w6 with ⟨stop,qn⟩|⟨go,N2,hN,step⟩
  ·refine dP (T.done Y rfl rfl rfl O i d s6 j l _ I6 (C DQ) VW stop) λr s7 f=>?_;let⟨D,k⟩:=f;subst D;exact⟨⟨Y⟩,j,l,k,qn⟩
  ·refine dP (T.item Y rfl rfl rfl O i d s6 j l _ I6 (C DQ) VW go) λr s7 l=>?_;let⟨as,D,h7⟩:=l;subst D;refine dP h7 λ_ F X=>?_;let⟨x,l,I8,r8,y8,D,TJ⟩:=X;have X:=I8.pinned (C TJ) (T.obj _ _ D);refine dP (z _ F j l x as _ X r8 (step x l y8)) λ_ j l=>?_;let⟨p,z,C,X⟩:=l;refine dP (A _ j p z _ C X) λok av j=>?_;let⟨LA,VX,q⟩:=j
   let ae:∀ {j:_L2.St} {l:Hp} {f:Shared},Inv Y (d++tT g F.heap) j l f->N2 j l->∃ z,z<o/\∃ i c a,Inv Y d c a f/\R i f.heap/\(∀ b∈g,a b=none)/\W i z c a:=λ{j l f} k g=>by
    let⟨o,z,A⟩:=hN j l g;refine⟨o,z,i+1,j,l,k.ou,T.keep _ _ _ D λb e o h=>(k.pin (b,o) (mP _ (mP _ (iI e h)))).1,λb e=>?_,A⟩;let⟨o,h,g⟩:=T.obj _ _ D b e;exact (k.pin (b,o) (mP _ (mP _ (iI e h)))).2.1
   cases ok with
   | false =>
    rw[if_neg gP]at q;exact ae VX q
   | true =>
    rw[if_pos rfl]at q;refine dP (B _ av p LA _ VX q) λN f b=>?_;let⟨ag,e,g,aw,xs,hx,hz,ax⟩:=b;have ap:=bX _ f p e ↥n [ag] ↥n [N] (λ_ a=>N2 p a) g rfl (.cons aw .nil) ⟨_,xs,ag,V,hx,hz,ax⟩;rw[U]at ap;exact dP ap λ_ f ⟨_,g,b,_,e⟩=>ae b e
 exact Tz ab (T.self _ _ _ _ _ S ab)
theorem F2{lo:Int}{k:Nat}{t:TG}{tt:TT}{u:TE}{a:_L2.St}{H:Hp}{w:_L2.St->Hp->Prop}(c:Nat->_L2.St->Hp->Prop)(A:c 0 a H)
  (B:∀ i a H,i<k->c i a H->t (.int (lo+i)) a H fun b g=>tt b g λh e=>if h=true then u b e λv f=>∃ j,f l=⇑(.lst j)/\↑j<sizeLine/\c (i+1) b (aO f l (.lst (j++[v]))) else c (i+1) b e)
  (C:∀ a H,c k a H->w a H):∃ W:Nat->Nat->_L2.St->Hp->Prop,(∃ m,W 0 m a H)/\∀ i m a H,W i m a H->
  ((K9 lo k).stop i H/\w a H)\/((K9 lo k).go i H/\∃ n:_L2.St->Hp->Prop,(∀ o d,n o d->∃ z,z<m/\W (i+1) z o d)/\∀ x d,(K9 lo k).OG i H x d->t x a d fun b g=>tt b g λh e =>
   if h=true then u b e λv f=>∃ p,f l=⇑(.lst p)/\↑p<sizeLine/\n b (aO f l (.lst (p++[v]))) else n b e):=by
 refine⟨λi m a H=>m=k-i/\i<=k/\c i a H,⟨k,by simp,mR _,A⟩,?_⟩;rintro i m a H ⟨rfl,D,s⟩;by_cases q:i<k
 ·refine .inr ⟨q,c (i+1),fun o d D=>⟨k-(i+1),by lia,1,q,D⟩,λx d y=>?_⟩;let⟨r,y⟩:=y;subst r y;exact B i a _ q s
 ·let r:i=k:=by lia
  subst r;exact .inl ⟨Nat.le_refl _,C a H s⟩
end
theorem TL{i:Nat}{v:V}{a:_L2.St}{H:Hp}{Q:_L2.St->Bool->Hp->Prop}(h:Q (a.set i (⇑v)) true H):qC i v a H (fun b c=>MT b c (Q b)):=h
theorem yes{a:_L2.St}{H:Hp}{Q:Bool->Hp->Prop}(h:Q true H):MT a H Q:=h
end _cN
namespace _gE
open _L2 _cN
class inductive TM
 | mk (r:Addr) (a:Row) (_:vs=[↥r]) (_:bU H r a) (_:(∀ p∈a,p.1<=p.2)) (_:↑(bg a)<=1000000) (_ :
 ∀ (n:Addr) (b:Hp),b n=⇑(.lst ((bg a).map V.int))->aJ H b->H n=none->Q ↥n b)
def zW{a:Row}{i:Nat}{p:Int × Int}(h:a[i]?=⇑p):bg (a.take (i+1))=bg (a.take i)++gG p:=by
 rw[take_snoc h,cZ,fQ]
def tK(a:Row)(i:Nat):↑(bg (a.take i))<=↑(bg a):=by
 conv=>rhs;rw[← List.take_append_drop i a,cZ,cY]
 lia
theorem zX{e a:Hp}{q t:Addr}{b:WF}{g:Row}{c d:Int}(j:e q=none)(s:aJ e a)(h:a q=⇑(.lst (b.map V.ref)))(k:bx a b g)(i:a t=none) :
  (aO (aO a t (.tup [.int c,.int d])) q (.lst (b.map V.ref++[↥t]))) q=⇑(.lst ((b++[t]).map V.ref))/\
  bx (aO (aO a t (.tup [.int c,.int d])) q (.lst (b.map V.ref++[↥t]))) (b++[t]) (g++[(c,d)])/\aJ e (aO (aO a t (.tup [.int c,.int d])) q (.lst (b.map V.ref++[↥t]))):=by
 let l:q≠t:=aB h i;let f:aJ a (aO a t (.tup [.int c,.int d])):=ao i _;refine⟨by rw[af,gm];rfl,?_,bQ j (s.trans f) (aI q _ _)⟩;refine bx.snoc ((k.same f).keep (f _ _ h) (aI q _ _)) ?_;show aO _ q _ t=_;rw[aN l.symm,af]
theorem turned{d b:Hp}{q t c:Addr}{a:WF}{f:Row}{st en:Int}(i:d q=none)(s:aJ d b)(g:b q=⇑(.lst (a.map V.ref++[↥c])))(j:bx b a f)(h:b t=none) :
  (aO (aO b t (.tup [.int st,.int en])) q (.lst ((a.map V.ref++[V.ref c]).set ↑a (V.ref t)))) q=⇑(.lst ((a++[t]).map V.ref))/\
  bx (aO (aO b t (.tup [.int st,.int en])) q (.lst ((a.map V.ref++[V.ref c]).set ↑a (V.ref t)))) (a++[t]) (f++[(st,en)])/\aJ d (aO (aO b t (.tup [.int st,.int en])) q (.lst ((a.map V.ref++[V.ref c]).set ↑a (V.ref t)))):=by
 let k:q≠t:=aB g h;let e:aJ b (aO b t (.tup [.int st,.int en])):=ao h _
 let l:(a.map V.ref++[V.ref c]).set ↑a (V.ref t)=(a++[t]).map V.ref:=by
  let z:=zU (a.map V.ref) (V.ref c) (V.ref t);rw[b8]at z;rw[z,gm];rfl
 rw[l];refine⟨af,?_,bQ i (s.trans e) (aI q _ _)⟩;refine bx.snoc ((j.same e).keep (e _ _ g) (aI q _ _)) ?_;show aO _ q _ t=_;rw[aN k.symm,af]
def Jo(a:WF)(b:Addr):Lk ↑(a.map V.ref++[V.ref b]) (-1)=some ↑a:=by
 rw[cY,b8,iA];exact F1 _
theorem CG{f:Row->Int × Int->Row}{a:Row}{i:Nat}{p:Int × Int}(h:a[i]?=⇑p):(a.take (i+1)).foldl f []=f ((a.take i).foldl f []) p:=foldl_take_succ f a [] i p h
def F3(a:Row):∀ t:Row,↑(a.foldl eL t)<=↑t+↑a:=by
 induction a with
 | nil=>intro t;simp
 | cons p a b =>
  intro t;let c:=b (eL t p)
  let b:↑(eL t p)<=↑t+1:=by
   unfold eL;split
   ·lia
   ·exact yb _ _ _
  rw[j5,kH];lia
def zY(a:Wp):∀ t:Row,↑(a.foldl (λt n=>iS t n (n+1)) t)<=↑t+↑a:=by
 induction a with
 | nil=>intro t;simp
 | cons n a b =>
  intro t;let c:=b (iS t n (n+1));let b:=yb t n (n+1);rw[j5,kH];lia
end _gE
namespace _gE
open Spec Rows _L2 _cN
class inductive XW
 | mk (r:Addr) (a:Row) (_:vs=[↥r]) (_:bU H r a) (_:↑a<=1000000) (_: ∀ b,aJ H b->Q (.int (jm a)) b)
end _gE
namespace _fJ
open Spec Rows PySem.W _L2
end _fJ
namespace _fJ
open Spec Rows PySem.W _L2
end _fJ
namespace _fJ
open Spec Rows _L2
section
variable {X:Cx}
def LC{a y:Str}{m n:Nat}(h:↑a+(n+m)<=1000000)(b:↑y<=n):↑(a++y)<=sizeLine/\↑(a++y)+m<=1000000:=by
 rw[PySem.strLen_append];refine⟨Nat.le_of_lt (Nat.lt_of_le_of_lt (show ↑a+↑y<=1000000 by lia) (by decide)),by lia⟩
def TN(r e f:R2)(g h i j:TE):TT:=fun a H Q=>g a H λx b=>h a b λy b=>r x y b λz b=>∃ k,z=.bl k/\
 (if k=true then i a b λu c=>e y u c λk c=>∃ d,k=.bl d/\(if d=true then j a c λv a=>f u v a λd k=>∃ a,d=.bl a/\Q a k else Q false c) else Q false b)
theorem MY{c d e:CmpOp}{r i j:R2}{k f g h:Expr}{l m n o:TE}(A:tV X (compareOp c) r)(B:tV X (compareOp d) i)(C:tV X (compareOp e) j)(D:PE X k l)(G:PE X f m)(H:PE X g n)(I:PE X h o)
  (J:lastMarks [c,d,e] [f,g,h]=false:=by with_unfolding_all rfl):PT X (.Compare k [c,d,e] [f,g,h] ab) (TN r i j l m n o):=by
 intro a s b F Q L M
 refine isTrue_chain (dP (D a s b F _ L M) λF L ⟨M,N,O,R,S⟩=>test_link (dP (G a L b N _ O S) λu L ⟨y,N,O,p,S⟩ =>
  dP (A a L b N M y F u _ O R p S) λz w ⟨x,q,t,T,U,W,v⟩=>?_)) J
 subst W;cases T;refine wpAny_truthy_bool ?_
 cases U with
 | false=>exact ite_ff ⟨q,t,v⟩
 | true =>
  refine ite_tt (test_link (dP (H a w b q _ t v) λq F ⟨t,L,M,v,N⟩=>dP (B a F b L y t u q _ M p v N) λu s5 p=>?_));let⟨u,w,x,r5,k5,e5,z⟩:=p;subst e5;cases r5;refine wpAny_truthy_bool ?_
  cases k5 with
  | false=>exact ite_ff ⟨w,x,z⟩
  | true =>
   refine ite_tt (test_last (dP (I a s5 b w _ x z) λp u ⟨w,x,y,z,F⟩=>dP (C a u b x t w q p _ y v z F) λb p a=>?_));let⟨b,H7,I7,r7,p,e7,q7⟩:=a;subst e7;cases r7;exact wpAny_truthy_bool ⟨H7,I7,q7⟩
end
end _fJ
namespace _gE
open _L2 _cN _fJ
def aU{H b:Hp}{a:Addr}(s:aJ H b)(h:b a=none):H a=none:=by
 cases q:H a with
 | none=>rfl
 | some o=>rw[s a o q]at h;cases h
def v8(i:Int):Prop:=-(10^60)<i/\i<10^60
def PB(a b h:Int)(p:Int × Int):Row:=if max (a-h) 0<min (b-h) (p.2-p.1) then [(p.1+max (a-h) 0,p.1+min (b-h) (p.2-p.1))] else []
def lF(a b:Int):Int->Row->Row
 | _,[]=>[]
 | h,p::r=>PB a b h p++lF a b (h+(p.2-p.1)) r
theorem F4(a b:Int)(p:Int × Int):∀ (r:Row) (c:Int),lF a b c (r++[p])=lF a b c r++PB a b (c+jm r) p
 | [],c=>by simp[lF,Tp]
 | q::r,c=>by
  let e:c+(q.2-q.1)+jm r=c+jm (q::r):=by rw[FZ];lia
  rw[List.cons_append,lF,F4 a b p r,lF,e,j4]
def XY(a b h:Int)(p:Int × Int):↑(PB a b h p)<=1:=by
 unfold PB
 split <;> simp
theorem kj(a b:Int):∀ (r:Row) (c:Int),↑(lF a b c r)<=↑r
 | [],_=>fF _
 | q::r,c=>by
  let d:=kj a b r (c+(q.2-q.1));let z:=XY a b c q;rw[lF,cY,kH];lia
def PD(b c h:Int)(p:Int × Int):∀ q∈PB b c h p,q.1<=q.2:=by
 unfold PB;split
 ·intro q a;simp only[List.mem_singleton]at a;subst a;simp only;lia
 ·intro q a;cases a
theorem DR(b c:Int):∀ (r:Row) (d:Int),∀ q∈lF b c d r,q.1<=q.2
 | [],_=>λq a=>by cases a
 | p::r,d=>λq a=>by
  rw[lF]at a;rcases List.mem_append.mp a with z|z
  ·exact PD b c d p q z
  ·exact DR b c r _ q z
theorem F5(s:Int):∀ (n k:Nat),(run s n).drop k=run (s+k) (n-k)
 | n,0=>by simp
 | 0,k+1=>by simp[run]
 | n+1,k+1=>by
  rw[run,List.drop_succ_cons,F5 (s+1) n k];let a:s+1+(k:Int)=s+((k+1:Nat):Int):=by lia
  let b:n+1-(k+1)=n-k:=by lia
  rw[a,b]
theorem F6(s:Int):∀ (n k:Nat),(run s n).take k=run s (min k n)
 | n,0=>by simp[run]
 | 0,k+1=>by simp[run]
 | n+1,k+1=>by
  rw[run,List.take_succ_cons,F6 (s+1) n k];let a:min (k+1) (n+1)=min k n+1:=by lia
  rw[a,run]
def MZ(a b h:Int)(p:Int × Int)(d:p.1<=p.2):bg (PB a b h p)=((gG p).take (b-h).toNat).drop (a-h).toNat:=by
 let⟨s,e⟩:=p;simp only at d;unfold PB gG;simp only;rw[F6,F5,← Int.ofNat_toNat (a-h)];generalize (a-h).toNat=n;generalize b-h=x;let f:0<=e-s:=by lia
 generalize e-s=y at f
 let g:min x.toNat y.toNat=(min x y).toNat:=by
  rcases Int.le_total x y with c|c
  ·rw[Int.min_eq_left c,Nat.min_eq_left (Int.toNat_le_toNat c)]
  ·rw[Int.min_eq_right c,Nat.min_eq_right (Int.toNat_le_toNat c)]
 rw[g];generalize min x y=m;clear g f d;by_cases c:(n:Int)<m
 ·rw[if_pos c,fQ,gG];simp only;rw[Int.add_sub_add_left,Int.toNat_sub']
 ·rw[if_neg c,Nat.sub_eq_zero_of_le (Int.toNat_le.mpr (Int.not_lt.mp c))];rfl
def zZ(b h:Int)(L:Nat):(b-(h+L)).toNat=(b-h).toNat-L:=by rw[← Int.sub_sub,Int.toNat_sub']
theorem rH(a b:Int):∀ (r:Row) (h:Int),(∀ p∈r,p.1<=p.2)->bg (lF a b h r)=((bg r).take (b-h).toNat).drop (a-h).toNat
 | [],h,_=>by simp[lF,bg]
 | p::r,h,ok=>by
  let c:=ok p (qx ..);let d:=rH a b r (h+(p.2-p.1)) λq e=>ok q (j0 _ e);have f:bg (p::r)=gG p++bg r:=rfl;have e:=yc p c;rw[lF,cZ,MZ a b h p c,d,f,List.take_append,List.drop_append,gI];congr 1;rw[← e,zZ,zZ];by_cases c:↑(gG p)<=(b-h).toNat
  ·rw[Nat.min_eq_right c]
  ·rw[Nat.sub_eq_zero_of_le (Nat.le_of_not_le c)];simp
def TQ(a b t:Int):Prop:=0<=a/\a<=b/\b<=t
class inductive F7
 | mk (r:Addr) (c:Row) (a b:Int) (_:vs=[↥r,.int a,.int b]) (_:bU H r c) (_:↑c<=1000000) (_ :
 ∀ (q:Addr) (d:Hp),bU d q (lF a b 0 c)->aJ H d->H q=none->Q ↥q d)
end _gE
namespace _gE
open _L2 _cN _fJ
end _gE
namespace _gE
open _L2 _cN _fJ
def kM(r:Row)(a:∀ p∈r,p.1<=p.2):bg (cJ r)=bg r:=by rw[oG r a,dm]
def pB(b c:Int)(a:Row)(d:∀ p∈a,p.1<=p.2):bg (cJ (lF b c 0 a))=((bg a).take c.toNat).drop b.toNat:=by
 rw[kM _ (DR b c a 0),rH b c a 0 d,Int.sub_zero,Int.sub_zero]
theorem LF(s:Int):∀ (n k:Nat),k<n->(run s n)[k]?=⇑(s+k)
 | 0,k,h=>by lia
 | n+1,0,_=>by simp[run]
 | n+1,k+1,h=>by
  rw[run,List.getElem?_cons_succ,LF (s+1) n k ∅];congr 1;lia
def iT(r:Row):↑(cJ r)<=↑r:=by
 let z:=F3 r [];simpa [cJ] using z
end _gE
namespace _gE
open Spec Rows _L2 _cN _fJ
def bx.append{H:Hp}{a b:WF}{r q:Row}(h:bx H a r)(t:bx H b q):bx H (a++b) (r++q):=by
 induction h with
 | nil=>exact t
 | cons e _ c=>exact .cons e c
theorem XZ{r q:Row}(h:∀ p∈r,p.1<=p.2)(g:∀ p∈q,p.1<=p.2):∀ p∈r++q,p.1<=p.2:=λp a=>(List.mem_append.mp a).elim (h p) (g p)
end _gE
namespace _L2
open Spec Rows
section
variable {c:Type} [DecidableEq c]
def cE(a:List (c × V))(k:c):Option V:=(a.find? λb=>decide (b.1=k)).map (·.2)
def dX(b:List (c × V))(k:c)(v:V):List (c × V) :=
 if (b.any λa=>decide (a.1=k))=true then b.map (λa=>if a.1=k then (a.1,v) else a) else b++[(k,v)]
def iB{p:c × V}{r:List (c × V)}{k:c}(e:p.1=k):cE (p::r) k=⇑p.2:=by simp[cE,List.find?_cons,e]
def gY{p:c × V}{r:List (c × V)}{k:c}(e:¬ p.1=k):cE (p::r) k=cE r k:=by simp[cE,List.find?_cons,e]
theorem kO(k:c):∀ a:List (c × V),(a.any λb=>decide (b.1=k))=(cE a k).isSome
 | []=>rfl
 | p::r=>by
  rw[List.any_cons];by_cases e:p.1=k
  ·simp only[iB e,decide_eq_true e,Bool.true_or,Option.isSome_some]
  ·rw[gY e,decide_eq_false e,Bool.false_or];exact kO k r
theorem F8(k j:c)(y:V):∀ b:List (c × V),cE (b.map λa=>if a.1=k then (a.1,y) else a) j=(cE b j).map λx=>if j=k then y else x
 | []=>rfl
 | p::r=>by
  let d:=F8 k j y r;rw[iu];by_cases h:p.1=k
  ·rw[if_pos h];by_cases e:p.1=j
   ·rw[iB (p:=(p.1,y)) e,iB e,Option.map_some,if_pos (e.symm.trans h)]
   ·rw[gY (p:=(p.1,y)) e,gY e,d]
  ·rw[if_neg h];by_cases e:p.1=j
   ·rw[iB (p:=p) e,iB e,Option.map_some,if_neg (λz=>h (e.trans z))]
   ·rw[gY (p:=p) e,gY e,d]
theorem CH(k j:c)(y:V):∀ b:List (c × V),cE b k=none->cE (b++[(k,y)]) j=if j=k then some y else cE b j
 | [],_=>by
  by_cases e:k=j
  ·rw[if_pos e.symm];exact iB (p:=(k,y)) e
  ·rw[if_neg (λz=>e z.symm)];exact gY (p:=(k,y)) e
 | p::r,a=>by
  rw[List.cons_append];let d:¬ p.1=k:=λz=>by rw[iB z]at a;cases a
  rw[gY d]at a;let f:=CH k j y r a;by_cases e:p.1=j
  ·rw[iB e,iB e,if_neg (λz=>d (e.trans z))]
  ·rw[gY e,gY e,f]
def kQ(b:List (c × V))(k j:c)(y:V):cE (dX b k y) j=if j=k then some y else cE b j:=by
 unfold dX;by_cases a:(b.any λd=>decide (d.1=k))=true
 ·rw[if_pos a,F8];rw[kO]at a;by_cases e:j=k
  ·let⟨x,d⟩:=Option.isSome_iff_exists.mp a;rw[if_pos e,e,d,Option.map_some,if_pos rfl]
  ·rw[if_neg e]
   cases cE b j with
   | none=>rfl
   | some x=>rw[Option.map_some,if_neg e]
 ·rw[if_neg a];refine CH k j y b ?_;rw[kO]at a
  cases q:cE b k with
  | none=>rfl
  | some x=>rw[q]at a;exact (a rfl).elim
def iL(a:List (c × V))(k:c)(v:V):↑(dX a k v)<=↑a+1:=by
 unfold dX;split
 ·rw[b8];lia
 ·rw[cY,kH,oq];lia
def vt{a:List (c × V)}{k:c}(v:V)(h:cE a k=none):dX a k v=a++[(k,v)]:=by
 unfold dX;rw[kO,h];exact if_neg (by decide)
def qg.wC{o:Option V}{u:XB}(r:qg o u):o.isSome=u.isSome:=by
 cases o with
 | none=>cases u with
  | none=>rfl
  | some _=>exact (show False from r).elim
 | some _=>cases u with
  | none=>exact (show False from r).elim
  | some _=>rfl
def qg.getD{o:Option V}{u:XB}{d:V}{a:Value}(r:qg o u)(b:RelV d a):RelV (o.getD d) (u.getD a):=by
 cases o with
 | none=>cases u with
  | none=>exact b
  | some _=>exact (show False from r).elim
 | some _=>cases u with
  | none=>exact (show False from r).elim
  | some _=>exact r
def KV.val{f:List (c × V)}{g:List (c × Value)}(r:KV f g)(k:c):qg (cE f k) (valueAt g k):=by
 unfold KV at r
 induction r with
 | nil=>exact True.intro
 | @cons p q b a h t j =>
  let⟨i,l⟩:=h;by_cases e:p.1=k
  ·let b:q.1=k:=i.symm.trans e;let d:valueAt (q::a) k=⇑q.2:=by simp[valueAt,List.find?_cons,b]
   rw[iB e,d];exact l
  ·let b:¬ q.1=k:=λz=>e (i.trans z);have d:valueAt (q::a) k=valueAt a k:=by simp[valueAt,List.find?_cons,b]
   rw[gY e,d];exact j
def KV.any{b:List (c × V)}{d:List (c × Value)}(r:KV b d)(k:c):(b.any λa=>decide (a.1=k))=d.any λa=>decide (a.1=k):=by
 unfold KV at r
 induction r with
 | nil=>rfl
 | cons h t e=>rw[List.any_cons,List.any_cons,e,h.1]
theorem KV.repl{d:List (c × V)}{f:List (c × Value)}(r:KV d f)(k:c){y:V}{u:Value}(g:RelV y u) :
  KV (d.map λa=>if a.1=k then (a.1,y) else a) (f.map λa=>if a.1=k then (a.1,u) else a):=by
 unfold KV at r ⊢
 induction r with
 | nil=>exact .nil
 | @cons p q e i h t b =>
  rw[iu,iu];refine .cons ?_ b;let⟨b,i⟩:=h;by_cases e:p.1=k
  ·rw[if_pos e,if_pos (b.symm.trans e)];exact⟨b,g⟩
  ·rw[if_neg e,if_neg (λz=>e (b.trans z))];exact⟨b,i⟩
def KV.put{b:List (c × V)}{a:List (c × Value)}(r:KV b a)(k:c){y:V}{u:Value}(d:RelV y u):KV (dX b k y) (stored a k u):=by
 unfold dX stored;rw[r.any k];by_cases e:(a.any λf=>decide (f.1=k))=true
 ·rw[if_pos e,if_pos e];exact r.repl k d
 ·rw[if_neg e,if_neg e];exact Paired.snoc r ⟨1,d⟩
theorem KV.length{a:List (c × V)}{b:List (c × Value)}(r:KV a b):↑a=↑b:=Paired.length r
end
def Aa{P:Program}{w:World}{k:eG}{u:Value}(r:RelV (kV k) u):(eU P w).is k u=true:=by
 cases k with
 | inl i=>let⟨t,e⟩:=(show ∃ t,u=Value.int i t from r);subst e;exact Fo P w i t
 | inr x=>let⟨t,e⟩:=(show ∃ t,u=Value.str x t from r);subst e;exact Fp P w x t
theorem CJ{P:Program}{w:World}:∀ {a:List eG} {b:WP},cK (a.map kV) b->ItemsAre (eU P w) a b
 | [],_,r=>by rw[List.map_nil]at r;cases r;exact .nil
 | k::a,_,r=>by
  rw[iu]at r
  cases r with
  | cons h t=>exact .cons (Aa h) (CJ t)
abbrev KT(H:Hp):List (List eG × V)->List (List eG × Addr × Value)->Prop:=Paired λp q=>p.1=q.1/\H q.2.1=⇑(.tup (p.1.map kV))/\RelV p.2 q.2.2
def KT.val{H:Hp}{d:List (List eG × V)}{f:List (List eG × Addr × Value)}(r:KT H d f)(k:List eG):qg (cE d k) ((atKey f k).map (·.2)):=by
 induction r with
 | nil=>exact True.intro
 | @cons p q b a h t i =>
  let⟨g,_,j⟩:=h;by_cases e:p.1=k
  ·let b:q.1=k:=g.symm.trans e;let c:atKey (q::a) k=⇑q.2:=by simp[atKey,List.find?_cons,b]
   rw[iB e,c];exact j
  ·let b:¬ q.1=k:=λz=>e (g.trans z);have c:atKey (q::a) k=atKey a k:=by simp[atKey,List.find?_cons,b]
   rw[gY e,c];exact i
theorem KT.repl{H:Hp}{c:List (List eG × V)}{d:List (List eG × Addr × Value)}(r:KT H c d)(k:List eG){y:V}{u:Value}(g:RelV y u) :
  KT H (c.map λb=>if b.1=k then (b.1,y) else b) (d.map (putAt k u)):=by
 induction r with
 | nil=>exact .nil
 | @cons p q e f h t a =>
  rw[iu,iu];refine .cons ?_ a;let⟨a,f,i⟩:=h;unfold putAt;by_cases e:p.1=k
  ·rw[if_pos e,if_pos (a.symm.trans e)];exact⟨a,f,g⟩
  ·rw[if_neg e,if_neg (λz=>e (a.trans z))];exact⟨a,f,i⟩
theorem KT.put{H:Hp}{b:List (List eG × V)}{a:List (List eG × Addr × Value)}(r:KT H b a)(k:List eG){c:Addr}{y:V}{u:Value}(e:H c=⇑(.tup (k.map kV)))(d:RelV y u) :
  KT H (dX b k y) (storedH a k c u):=by
 let f:(b.any λg=>decide (g.1=k))=(atKey a k).isSome:=by
  rw[kO,(r.val k).wC,Option.isSome_map]
 unfold dX storedH;rw[f];by_cases q:(atKey a k).isSome=true
 ·rw[if_pos q,if_pos q];exact r.repl k d
 ·rw[if_neg q,if_neg q];exact Paired.snoc r ⟨1,e,d⟩
theorem KT.keeps{H a:Hp}{b:List (List eG × V)}{c:List (List eG × Addr × Value)}(r:KT H b c)(f:∀ d e,H d=⇑(.tup e)->a d=⇑(.tup e)):KT a b c :=
 Paired.Dv r λ_ _ z=>⟨z.1,f _ _ z.2.1,z.2.2⟩
section
variable {P:Program} {w:World} {H:Hp} {h:Heap} {a:Addr}
theorem VY{u:HO}(b:uK P w H h)(e:Rd H a u):gn P w H h a u:=e.ok b
theorem CK{b:List (eG × V)}(d:uK P w H h)(e:Rd H a (.dK b)):↑b<=sizeLine/\(a == sysModules)=false/\∃ c,KV b c/\h.DictOf (eU P w) a c :=
 show gn P w H h a (.dK b) from VY d e
theorem Ab{b:List (eG × V)}(d:uK P w H h)(e:H a=⇑(.dK b)):↑b<=sizeLine/\(a == sysModules)=false/\∃ c,KV b c/\h.DictOf (eU P w) a c:=CK d (.inl e)
def Ac{b:List eG}(c:uK P w H h)(e:H a=⇑(.tup (b.map kV))):(tupleKind (eU P w)).is h b a:=by
 let⟨_,d,r,o,f,g,n,i⟩:=(show gn P w H h a (.tup (b.map kV)) from c a _ e);exact⟨o,d.toArray,n,f,g,i,by simpa using CJ r⟩
theorem CL{c:List (List eG × V)}(f:uK P w H h)(e:Rd H a (.dT c)):↑c<=sizeLine/\(a == sysModules)=false/\
  ∃ d,KT H c d/\h.DictOfH (tupleKind (eU P w)) a d:=by
 let⟨z,y,d,r,o,i,j,k,l,m,n,p⟩:=(show gn P w H h a (.dT c) from VY f e);refine⟨z,y,d,r,o,i,j,k,l,m,n,λx b=>?_,p⟩
 let s:∀ {l:List (List eG × V)} {m:List (List eG × Addr × Value)},KT H l m->∀ x∈m,(tupleKind (eU P w)).is h x.1 x.2.1:=by
  intro l m q
  induction q with
  | nil=>intro x b;exact nomatch b
  | @cons p q i j g t u =>
   intro x b;rcases List.mem_cons.mp b with e|b
   ·subst e;exact Ac f (by rw[← g.1];exact g.2.1)
   ·exact u x b
 exact s r x b
theorem uj{b:List (List eG × V)}(d:uK P w H h)(e:H a=⇑(.dT b)):↑b<=sizeLine/\(a == sysModules)=false/\
  ∃ c,KT H b c/\h.DictOfH (tupleKind (eU P w)) a c:=CL d (.inl e)
end
def gu(H:Hp)(b:Addr)(y:V)(r:Option V):Prop :=
 (∃ a k,Rd H b (.dK a)/\y=kV k/\r=cE a k)\/∃ a k c,Rd H b (.dT a)/\y=↥c/\H c=⇑(.tup (k.map kV))/\r=cE a k
def wD(H:Hp)(b:Addr)(y v:V)(c:Hp):Prop :=
 (∃ a k,H b=⇑(.dK a)/\y=kV k/\↑a<sizeLine/\c=aO H b (.dK (dX a k v)))\/
 ∃ a k d,H b=⇑(.dT a)/\y=↥d/\H d=⇑(.tup (k.map kV))/\↑a<sizeLine/\c=aO H b (.dT (dX a k v))
theorem gu.k{H:Hp}{b:Addr}{a:List (eG × V)}{k:eG}(e:H b=⇑(.dK a)):gu H b (kV k) (cE a k):=.inl ⟨a,k,.inl e,V⟩
theorem wD.k{H:Hp}{b:Addr}{a:List (eG × V)}{k:eG}{v:V}(e:H b=⇑(.dK a))(c:↑a<sizeLine):wD H b (kV k) v (aO H b (.dK (dX a k v))):=.inl ⟨a,k,e,1,c,1⟩
section
variable {X:Cx} {ay:List (Addr × Obj)} {σ:St} {H:Hp} {s:Shared} {a:Addr} {y v:V} {u r:Value} {o:Option V} {A:Around} {E:ZB}
def Inv.big(I:Inv X ay σ H s):sysModules<s⁻¹:=by
 let h:mainGlobals<s⁻¹:=(I.mod.glob.keeps I.bk).lt;exact Nat.lt_trans (by decide) h
theorem M0{Q:ZB}(n:A.units+1<cLine)(I:Inv X ay σ H s)(p:gu H a y (⇑v))(i:RelV y u)(j:∀ b m,Inv X ay σ H m->RelV v b->Q b m) :
  wpAny (model X.prog X.w) A (getItem ↥a u) Q E s:=by
 rcases p with ⟨o,k,e,c,l⟩|⟨o,k,q,e,c,r,l⟩
 ·subst c;let⟨z,t,o,d,f⟩:=CK I.hok e;let⟨b,g,h⟩:=qg.some_of (v:=v) (o:=valueAt o k) (by rw[l];exact d.val k);exact wpAny_getItem_of (Aa i) f.mapOf g (j b _ (I.tok _) h)
 ·subst c;cases (show u=Value.ref q from i);let⟨z,t,c,d,f⟩:=CL I.hok e;let⟨b,g,h⟩:=qg.some_of (v:=v) (o:=(atKey c k).map (·.2)) (by rw[l];exact d.val k);let⟨e,c,d⟩:=Option.map_eq_some_iff.mp g;refine wpAny_getItem_heap (tupleKind_room_in1 n) (Ac I.hok r) f c ?_;rw[d];exact j b _ (I.tok _) h
theorem TR{Q:ZB}(j:A.units+1<cLine)(I:Inv X ay σ H s)(m:gu H a y o)(g:RelV y u)(h:∀ i,Inv X ay σ H i->Q (.bool (!o.isSome)) i) :
  wpAny (model X.prog X.w) A (compareOp .NotIn u ↥a) Q E s:=by
 rcases m with ⟨n,k,e,b,l⟩|⟨n,k,p,e,b,q,l⟩
 ·subst b;let⟨z,c,n,d,f⟩:=CK I.hok e;refine wpAny_notIn_of (Aa g) c f.mapOf ?_;rw[← (d.val k).wC,← l];exact h _ (I.tok _)
 ·subst b;cases (show u=Value.ref p from g);let⟨z,c,b,d,f⟩:=CL I.hok e;refine wpAny_notIn_heap (tupleKind_room_in1 j) (Ac I.hok q) c f ?_;let q:=(d.val k).wC;rw[Option.isSome_map]at q;rw[← q,← l];exact h _ (I.tok _)
theorem yQ{b:Heap}{d:Nat}{c:HO}(I:Inv X ay σ H s)(e:Z5 (H a))(f:Heap.SameBut a s.heap b)(g:∃ q,b.get? a=⇑q)(h:gn X.prog X.w (aO H a c) b a c) :
  Inv X ay σ (aO H a c) { s with heap:=b,toks:=d } :=
 I.write (x:=a) (e:=a) e (.inl rfl) (λi q j z=>(f.2 i j).trans z) g h
theorem Jp{P:Program}{w:World}{e:Hp}{d:Heap}{b:List (eG × V)}{c:List (eG × Value)}(z:↑b<=sizeLine)(f:(a == sysModules)=false)(g:KV b c)(h:d.DictOf (eU P w) a c) :
  gn P w e d a (.dK b):=⟨z,f,c,g,h⟩
theorem M4{p:Hp}{Q:Unit->Shared->Prop}(D:A.units+1<cLine)(I:Inv X ay σ H s)(G:wD H a y v p)(t:RelV y u)(w:RelV v r)(x:∀ B,Inv X ay σ p B->Q () B) :
  wpAny (model X.prog X.w) A (setItem ↥a u r) Q E s:=by
 rcases G with ⟨b,k,e,g,F,h⟩|⟨b,k,J,e,g,o,F,h⟩
 ·subst g h;let⟨z,i,F,c,j⟩:=Ab I.hok e;let l:↑F<=sizeLine:=by rw[← ↑c];exact z
  let m:↑(dX b k v)<=sizeLine:=by have:=iL b k v;lia
  refine wpAny_setItem_pairs (hsz:=l) (Aa t) j λC d n=>x _ ?_;have F:∃ q,C.get? a=⇑q:=let ⟨q,E,f,_⟩:=d;⟨q,f⟩;exact yQ I (by rw[e];exact True.intro) n F (Jp m i (c.put k w) d)
 ·subst g h;cases (show u=Value.ref J from t);let⟨z,i,g,c,j⟩:=uj I.hok e;let l:↑g<=sizeLine:=by rw[← Paired.length c];exact z
  let m:↑(dX b k v)<=sizeLine:=by have:=iL b k v;lia
  refine wpAny_setItem_heap (hsz:=l) (tupleKind_room_in1 D) (Ac I.hok o) j λC d n=>x _ ?_;let⟨q,g,h,f,j,l,C,_,F⟩:=d;refine yQ I (by rw[e];exact True.intro) n ⟨q,f⟩ ⟨m,i,_,(c.put k o w).keeps λc d b=>?_,q,g,h,f,j,l,C,F⟩;rw[aN (cS b e (λz=>nomatch z))];exact b
end
def X0(i:Expr):Prop:=∀ a b,subscripted i false a b=operate [a,b] (getItem a b)
theorem TU{a:Program}{w:World}{A:Around}{E:ZB}{s:Shared}{c:Env}{T k:String}{Q:ZB}
  (l:typeLookup (.type T) "__getitem__"=pure (⇑(.builtin k))) (m:X0 d)
  (n:wpAny (model a w) A (eval g c) (λo h=>wpAny (model a w) A (eval d c) (λi b=>b.TypeIs o T/\wpAny (model a w) A (getItem o i) Q E b) E h) E s) :
  wpAny (model a w) A (eval (.Subscript g d p) c) Q E s:=by
 refine Subscript_ (wpAny_mono n (λo h e=>wpAny_mono e (λi b e=>?_) λ_ _ x=>x) λ_ _ x=>x);let⟨f,e⟩:=e;unfold subscriptTail;refine wpAny_bind ?_;rw[getitemInPython_of_ne f.not_modules];refine wpAny_bind (wpAny_specialOf f l ?_)
 let f:wpAny (model a w) A (subscripted d false o i) (λr j=>wpAny (model a w) A (letTemporaryGo g o r >>= λ_=>pure r) Q E j) E b:=by
  rw[m o i];exact wpAny_operating (wpAny_mono e (λr j e=>wpAny_bind (wpAny_letTemporaryGo (wpAny_pure e))) λ_ _ x=>x)
 first
  | exact wpAny_pure (wpAny_bind f)
  | exact wpAny_bind (wpAny_pure (wpAny_bind f))
  | exact wpAny_bind f
def F9{c:Cx}{d:St}{H:Hp}{s:Shared}{b:Addr}{y:V}{o:Option V}(I:Inv c f d H s)(g:gu H b y o):s.TypeIs ↥b "4":=by
 rcases g with ⟨a,k,e,_,_⟩|⟨a,k,h,e,_,_,_⟩
 ·let⟨_,_,h,_,a⟩:=CK I.hok e;exact a.typeIs
 ·let⟨_,_,h,_,a⟩:=CL I.hok e;exact a.typeIs
inductive jt(x y:V)(H:Hp)(Q:VK):Prop
 | mk (a:Addr) (v:V) (_:x=↥a) (_:gu H a y (⇑v)) (_:Q v H):jt x y H Q
def V0(b c:TE):TE:=fun a H Q=>b a H λx d=>c a d λy a=>jt x y a Q
def TV(c d:TE):TE:=fun a H Q=>c a H λy b=>d a b λx a=>∃ b o,x=↥b/\gu a b y o/\Q (.bl (!o.isSome)) a
def uk(d e f:TE):TS:=λD a H=>f a H λv b=>d a b λx b=>e a b λy g=>∃ b c,x=↥b/\wD g b y v c/\D.nx a c
section
variable {X:Cx} {o i e value:Expr} {pos ja MB:Pos} {td ty tv:TE}
def TX(d:X.A.units+1<cLine)(f:PE X o td)(h:PE X i ty)(j:X0 i):PE X (.Subscript o i pos) (V0 td ty):=by
 intro a s b H Q I e;refine TU PySem.F.slot_dict_getitem.lookup j (dP (f a s b H _ I e) λu e ⟨x,k,l,m,n⟩=>dP (h a e b k _ l n) λb e a=>?_);let⟨y,p,c,q,r,v,t,g,w⟩:=a;subst t;obtain rfl:u=Value.ref r:=m;exact⟨F9 c g,M0 d c g q λc e a b=>⟨v,p,a,b,w⟩⟩
def CM(c:X.A.units+1<cLine)(d:PE X i ty)(f:PE X o td):PC X .NotIn i o (TV ty td):=by
 intro a s b H Q I h;refine dP (d a s b H _ I h) λw e ⟨y,g,h,j,k⟩=>dP (f a e b g _ h k) λu b a=>?_;let⟨x,l,m,n,p,q,r,t,v⟩:=a;subst r;obtain rfl:u=Value.ref p:=n;exact TR c m t j λb a=>⟨.bl (!q.isSome),l,a,1,v⟩
theorem nK(c:X.A.units+1<cLine)(d:PE X o td)(f:PE X i ty)(g:PE X value tv)(h:swapsWith value (⇑(.Subscript o i ja)) pos.line X.env=pure false) :
  PS X (.Assign [.Subscript o i ja] value pos) (uk td ty tv):=by
 intro b s a H D I e;refine wpAny_Assign_Subscript (dP (g b s a H _ I e) λy e ⟨z,j,k,l,m⟩=>dP (d b e a j _ k m) λu e ⟨y,j,k,n,m⟩=>dP (f b e a j _ k m) λb e ⟨y,j,p,q,r,t,v,w,x⟩=>?_) h;subst v;obtain rfl:u=Value.ref r:=n;exact M4 c p w q l λe b=>⟨a,t,b,x⟩
end
theorem Ga{P:Program}{w:World}{H:Hp}(h:Heap)(a:sysModules<h.objs.size):gn P w H (h.push { cls:=.type "4",data:=.dict #[] }) h.objs.size (.dK []) :=
 ⟨Nat.zero_le _,beq_eq_false_iff_ne.mpr (Ne.symm (i9 a)),[],.nil,Heap.DictOf.new h⟩
def X3:TE:=λ_ H Q=>∀ p,H p=none->Q ↥p (aO H p (.dK []))
section
variable {X:Cx} {pos:Pos}
theorem kT:PE X (.Dict [] [] pos) X3:=λa s b H Q I h =>
 wpAny_Dict_empty ⟨↥s⁻¹,_,I.laid (a:=s⁻¹) (o:=.dK []) (t':=s.toks) (λ_ _ q=>Heap.get?_push_of_some _ q) (fF _) (Ga s.heap I.big),1,h _ (I.hok.fresh (fF _))⟩
end
def Jq:List (TE × TE)->St->Hp->(List (V × V)->Hp->Prop)->Prop
 | [],_,H,Q=>Q [] H
 | (b,c)::r,a,H,Q=>b a H λx b=>c a b λy b=>Jq r a b λa b=>Q ((x,y)::a) b
abbrev VV:List (V × V)->List (Value × Value)->Prop:=Paired λp q=>RelV p.1 q.1/\RelV p.2 q.2
def eW(a:Cx)(f:Pos)(g:List (Option Expr))(h:List Expr)(i:List (TE × TE)):Prop :=
 ∀ (c:List (Addr × Obj)) (s:Shared) (b:St) (H:Hp) (Q:List (V × V)->Hp->Prop),Inv a c b H s->Jq i b H Q->
  wpAny (model a.prog a.w) a.A (evalPairs (pairTrees g h a.env f)) (λj k=>∃ d e,Inv a c b e k/\VV d j/\Q d e) a.xe s
theorem TZ{a:Cx}:eW a b [] [] []:=λc s d H Q I h=>pairTrees_nil_walk ⟨[],H,I,.nil,h⟩
theorem vv{a:Cx}{k v:Expr}{d:List (Option Expr)}{e f:TE}{g:List (TE × TE)}(h:PE a k e)(i:PE a v f)(j:eW a l d m g) :
  eW a l (⇑k::d) (v::m) ((e,f)::g):=λb s c H Q I n =>
 pairTrees_cons_walk (dP (h b s c H _ I n) λu n ⟨x,o,p,q,r⟩=>dP (i b n c o _ p r) λu n ⟨y,o,p,r,t⟩ =>
  dP (j b n c o _ p t) λt u ⟨b,c,n,o,p⟩=>⟨(x,y)::b,c,n,.cons ⟨q,r⟩ o,p⟩)
def wG(b c:List (eG × V)):List (eG × V):=c.foldl (λd a=>dX d a.1 a.2) b
def KV.merge:∀ {c:List (eG × V)} {d:List (eG × Value)} {a:List (eG × V)} {b:List (eG × Value)},KV c d->KV a b->KV (wG a c) (merged b d):=by
 intro c d a b r;unfold KV at r
 induction r generalizing a b with
 | nil=>intro q;exact q
 | @cons p q f g h t e =>
  intro f
  let g:KV (dX a p.1 p.2) (stored b q.1 q.2):=by
   have:=f.put p.1 h.2;rw[← h.1];exact this
  exact e g
theorem tL:∀ (b a:List (eG × V)),↑(wG a b)<=↑a+↑b
 | [],a=>by show ↑a<=↑a+0;lia
 | p::r,a=>by
  let c:=tL r (dX a p.1 p.2);let c:=iL a p.1 p.2;show ↑(wG (dX a p.1 p.2) r)<=_;rw[kH];lia
theorem Ae{P:Program}{w:World}:∀ {d:List (eG × V)} {e:List (Value × Value)},VV (d.map λf=>(kV f.1,f.2)) e->∃ c,Carries (eU P w) e c/\KV d c
 | [],_,r=>by rw[List.map_nil]at r;cases r;exact⟨[],True.intro,.nil⟩
 | p::d,_,r=>by
  rw[iu]at r
  cases r with
  | @cons a b g bs h t =>
   let⟨c,g,q⟩:=Ae (P:=P) (w:=w) t;let⟨j,i⟩:=b;exact⟨(p.1,i)::c,⟨Aa h.1,1,g⟩,.cons ⟨1,h.2⟩ q⟩
def PF(d:List (TE × TE)):TE:=fun a H Q=>∀ p,H p=none->Jq d a (aO H p (.dK [])) λc b=>b p=⇑(.dK [])/\∃ a:List (eG × V),c=a.map (λc=>(kV c.1,c.2))/\↑a<=15/\Q ↥p (aO b p (.dK (wG [] a)))
theorem T3{a:Cx}{b:List (Option Expr)}{c:List Expr}{d:List (TE × TE)}(i:eW a j b c d)(k:b.all (·.isSome)=true)(l:↑b=c.length)(m:b≠[])
  (n:↑b<=15):PE a (.Dict b c j) (PF d):=by
 intro h s o H Q I q;let p:=I.hok.fresh (fF s⁻¹);let r:=I.laid (a:=s⁻¹) (o:=.dK []) (h':=s.heap.push { cls:=.type "4",data:=.dict #[] }) (t':=s.toks) (λ_ _ q=>Heap.get?_push_of_some _ q) (fF _) (Ga s.heap I.big);refine wpAny_Dict_walk (knd:=eU a.prog a.w) k l m n (dP (i h _ o _ _ r (q _ p)) λo p h=>?_);let⟨o,p,e,t,f,g,u,lk,v⟩:=h;subst u;let⟨w,x,y⟩:=Ae (P:=a.prog) (w:=a.w) t;let⟨h,z,o,A,B⟩:=Ab e.hok f;cases A;refine⟨w,x,B,λo h p=>⟨↥s⁻¹,_,?_,1,v⟩⟩
 let r:↑(wG [] g)<=sizeLine:=by
  let t:=tL g [];rw[oq]at t;rw[sizeLine_eq];lia
 let g:∃ q,o.get? s⁻¹=⇑q:=let ⟨q,E,o,_⟩:=h;⟨q,o⟩;exact yQ e (by rw[f];exact True.intro) p g (Jp r z (y.merge .nil) h)
structure M2(X:Cx)(o:Expr)(m:Str)(j7:Pos)(e f:Expr)(oE:Pos):Prop where
 zt:attributeBase o m X.env (eval o X.env)=eval o X.env
 few:((backTo oE (starEach [e,f] X.env)).all (λx=>!x.1)&&(backToKw oE (keywordEach [] X.env)).all (λx=>x.1.isSome)
  && decide (↑([e,f]:List Expr)+↑([]:List Keyword)+(if ([]:List Keyword).isEmpty then 0 else 1)<30))=true
 line:(j7.endLine == oE.line)=true
 trees:backTo oE (starEach [e,f] X.env)=[(false,eval e X.env),(false,eval f X.env)]
def gb(H:Hp)(b:Addr):Prop:=(∃ a,Rd H b (.dK a))\/∃ a,Rd H b (.dT a)
theorem PJ{i:Cx}{j:St}{H:Hp}{s:Shared}{c:Addr}(I:Inv i m j H s)(k:gb H c) :
  s.TypeIs ↥c "4"/\(∀ d,Value.ref c=↥d->∃ a,s.heap.get? d=⇑a/\a.dict=none)/\(c == sysModules)=false:=by
 rcases k with ⟨l,e⟩|⟨l,e⟩
 ·let⟨_,f,l,_,b⟩:=CK I.hok e;refine⟨b.typeIs,λd q=>?_,f⟩;cases q;let⟨a,_,_,g,h,_⟩:=b;exact⟨a,g,h.2.1⟩
 ·let⟨_,f,l,_,b⟩:=CL I.hok e;refine⟨b.typeIs,λd q=>?_,f⟩;cases q;let⟨a,_,_,g,h,_⟩:=b;exact⟨a,g,h.2.1⟩
section
variable {X:Cx} {ay:List (Addr × Obj)} {σ:St} {H:Hp} {s:Shared} {a:Addr} {y d:V} {u r:Value} {o:Option V} {A:Around} {E:ZB}
theorem X4{Q:ZB}(q:A.units+1<cLine)(I:Inv X ay σ H s)(t:gu H a y o)(h:RelV y u)(i:RelV d r)(j:∀ m n,Inv X ay σ H n->RelV (o.getD d) m->Q m n) :
  wpAny (model X.prog X.w) A (call (.builtin "dict.get") [↥a,u,r]) Q E s:=by
 rcases t with ⟨v,k,e,c,l⟩|⟨v,k,p,e,c,w,l⟩
 ·subst c;let⟨z,f,v,g,b⟩:=CK I.hok e;refine call_meetsIn PySem.F.slot_dict_get b.typeIs PySem.F.entry_dict_get (PySem.F.args_dict_get_3 _ _ _) (meets_dict_get_default (eU X.prog X.w) a (Aa h) f r) ⟨_,b.mapOf,j _ _ (I.tok _) ?_⟩;rw[l];exact (g.val k).getD i
 ·subst c;cases (show u=Value.ref p from h);let⟨z,f,c,g,b⟩:=CL I.hok e;refine call_meetsIn PySem.F.slot_dict_get b.typeIs PySem.F.entry_dict_get (PySem.F.args_dict_get_3 _ _ _) (meetsH_dict_get_default (tupleKind (eU X.prog X.w)) a p f r) ⟨tupleKind_room_in1 q,k,c,Ac I.hok w,b,j _ _ (I.tok _) ?_⟩;rw[l];exact (g.val k).getD i
end
def X5(d e f:TE):TE:=fun a H Q=>d a H λx c=>∃ b,x=↥b/\gb c b/\e a c λy c=>f a c λz a=>∃ o,gu a b y o/\Q (o.getD z) a
section
variable {X:Cx} {o e f:Expr} {j7 oE:Pos} {td ty tx:TE}
def Af(d:X.A.units+1<cLine)(g:PE X o td)(h:PE X e ty)(i:PE X f tx)(m:M2 X o "get" j7 e f oE):PE X (.Call (.Attribute o "get" j7) [e,f] [] oE) (X5 td ty tx):=by
 intro a s b H Q I j;refine wpAny_Call_method m.zt m.few m.line PySem.F.plainAttrs_dict PySem.F.slot_dict_get PySem.F.type_dict_get (dP (g a s b H _ I j) λu k j=>?_);let⟨x,l,c,n,p,q,r,t⟩:=j;subst q;obtain rfl:u=Value.ref p:=n;let⟨j,n,_⟩:=PJ c r;exists j,n;rw[m.trees]
 refine Calls.callWith_builtin rfl (Calls.evalArgs_plain (Calls.spliced_cons (dP (h a k b l _ c t) λp c ⟨y,j,k,l,n⟩ =>
  Calls.spliced_cons (dP (i a c b j _ k n) λn p ⟨z,a,b,c,q,j,k⟩=>Calls.spliced_nil ?_))))
 exact X4 d b j l c λj l b c=>⟨_,a,b,c,k⟩
end
end _L2
namespace _cN
open Spec Rows _L2
def jg(a:Cx)(N:UV)(b:Scope)(c:List (Str × Addr))(C:Addr)(s₀:Shared)(H₀:Hp)(ex:WF)(pn:List (Addr × Obj)):Cx where
 prog:=a.prog
 w:=a.w
 K:=a.K
 mg:=a.mg
 zt:=a.zt
 A:=a.A
 N:=N
 s₀:=s₀
 H₀:=H₀
 env:=compEnvC b c C a.env
 zn:=a.stack
 stack:=a.stack
 ex:=ex
 fn:=λ_=>false
 calm:=a.calm
 pn:=pn
 xe:=λ_ _=>False
structure CN(X:Cx)(N:UV)(scope:Scope)(cl:List (Str × Addr))(jx:List (Option Nat)):Prop where
 kind:scope.kind=.function
 cell:∀ x∈scope.names,x.2≠.cell
 names:∀ x∈scope.names,x.2=.local->scope.names.lookup x.1=⇑.local
 clos:closureFor scope X.env=pure cl
 sub:∀ x c,cl.lookup x=⇑c->X.env.cells.lookup x=⇑c
 has:∀ x,((relabel scope X.env).names.lookup x=⇑.cell\/(relabel scope X.env).names.lookup x=⇑.free)->∃ c,cl.lookup x=⇑c
 len:↑jx=↑N
 free:∀ (i j:Nat) (x:Str),jx[i]?=⇑(⇑j)->N[i]?=⇑x->X.N[j]?=⇑x/\X.env.scope.names.lookup x=⇑.cell/\(relabel scope X.env).names.lookup x=⇑.cell
def uh(a:List (Option Nat))(b:_L2.St):_L2.St:=a.map λo=>o.bind λj=>(b[j]?).join
section
variable {X:Cx} {N:UV} {scope:Scope} {c:List (Str × Addr)} {jx:List (Option Nat)}
theorem yd{h:_L2.St}{H:Hp}{s:Shared}{m:WF}{q:Heap}{C:Nat}(d:CN X N scope c jx)(I:Inv X i h H s)(n:∀ b∈m,oZ X i H b)(D:∀ b∈m,b<s⁻¹)
  (G:q.Ns s⁻¹ λ_=>none) (j:∀ b o,s.heap.get? b=⇑o->q.get? b=⇑o) :
  Inv (jg X N scope c s⁻¹ s H m (X.pn++i)) [] (uh jx h) H { s with heap:=q,toks:=C }:=by
 let k:∀ {x a},(jg X N scope c s⁻¹ s H m (X.pn++i)).env.cells.lookup x=⇑a->X.env.cells.lookup x=⇑a:=λ{x a} e=>d.sub x a e
 refine⟨⟨I.ok.mod,d.kind,I.ok.glob,I.ok.blt,fF _,λx F a e J=>I.ok.inj x F a (k e) (k J),λx F=>d.has x F,λx a z _=>(by cases z),I.ok.hd,I.ok.frames,.inl rfl,λb f=>⟨Nat.ne_of_lt (D b f),λx a e=>(n b f).2.2.2.2.1 x a (k e)⟩,I.bs,iG I.ok.VG I.sz,λb o e f=>?_,λb f z=>?_,I.stack,I.KU⟩,1,I.bare,Un.kept j,⟨_,G,λw x v L g _=>?_⟩,λx a e=>?_,I.hok.fresh (fF _),λx a e=>I.sD x a (k e),λp M=>?_,I.hok.kept j,by unfold uh;rw[b8];exact d.len⟩
 ·rcases (n b f).2.2.2.1 with z|z
  ·exact I.ok.OB b o e z
  ·exact absurd (qw (Heap.lt_size (I.ok.bs b o e).1) z) (Nat.lt_irrefl _)
 ·rcases List.mem_cons.mp (I.wc b z) with e|e
  ·exact (n b f).2.1 e
  ·exact (n b f).2.2.1 e
 ·unfold uh at g;rw[kB]at g
  cases r:jx[w]? with
  | none=>rw[r]at g;cases g
  | some o =>
   rw[r]at g
   cases o with
   | none=>cases g
   | some l =>
    let O:h[l]?=⇑(⇑v):=by
     let z:((h[l]?).join)=⇑v:=qz g
     cases t:h[l]? with
     | none=>rw[t]at z;cases z
     | some f=>rw[t]at z;exact congrArg some z
    let⟨f,y,A⟩:=d.free w l x r L;let⟨r,w,g⟩:=I.loc;let⟨r,w,R⟩:=g l x v f O (.inr (.inl y));exists r,w;rcases R with ⟨f,_⟩|⟨_,a,S,o,t,u⟩
    ·let B:X.env.scope.names.lookup x=⇑.local:=f;rw[y]at B;cases B
    ·let⟨f,B⟩:=d.has x (.inl A);let z:=d.sub x f B;rw[S]at z;cases z;exact .inr ⟨.inl A,a,B,o,j _ _ t,u⟩
 ·let⟨v,o,t,u⟩:=I.cell x a (k e);exact⟨v,o,j _ _ t,u⟩
 ·let a:p∈X.pn++i:=by
   let z:p∈(X.pn++i)++[]:=M;simpa using z
  let⟨e,f,l,r,g⟩:=I.pin p a;refine⟨j _ _ e,f,i9 (Heap.lt_size e),λz=>?_,g⟩;rcases List.mem_cons.mp (I.wc p.1 z) with e|e
  ·exact l e
  ·exact r e
theorem wH{g j:_L2.St}{H h:Hp}{s i:Shared}{e:WF}(I:Inv X f g H s)(a:∀ b∈e,oZ X f H b)(J:Inv (jg X N scope c s⁻¹ s H e (X.pn++f)) [] j h i):Inv X f g h i :=
 I.pr (e:=e) J.os J.zt J.hok J.bare λb d=>⟨(a b d).2.2.2.1,(a b d).2.1,(a b d).2.2.2.2.1,(a b d).2.2.2.2.2⟩
def wI{h d:_L2.St}{H b:Hp}{s a:Shared}{f:Heap}(I:Inv X g h H s)(i:Inv X g d b a)(j:b s⁻¹=none)(k:Heap.SameBut s⁻¹ a.heap f):Inv X g d b { a with heap:=f }:=by
 refine i.turned (t':=a.toks) (it:=s⁻¹) (λl o c e=>k.extBut _ _ c e) j (Nat.ne_of_gt I.lt) (.inr I.sz) (λx c e z=>?_) λp l z=>?_
 ·let⟨v,o,m,_⟩:=I.cell x c e;exact absurd (Heap.lt_size m) (by rw[z];exact Nat.lt_irrefl _)
 ·exact absurd (Heap.lt_size (I.pin p l).1) (by rw[z];exact Nat.lt_irrefl _)
def rJ(J:It)(d:Addr)(g:TG)(tt:TT)(h:TE)(j:_L2.St)(H:Hp)(Q:VK):Prop :=
 ∃ W:Nat->Nat->_L2.St->Hp->Prop,(∃ m,W 0 m j H)/\∀ i m b H,W i m b H->
  (J.stop i H/\Q ↥d H)\/(J.go i H/\∃ c:_L2.St->Hp->Prop,(∀ e a,c e a->∃ f,f<m/\W (i+1) f e a)/\∀ x a,J.OG i H x a->g x b a fun b e=>tt b e λa e =>
   if a=true then h b e λv f=>∃ a,f d=⇑(.lst a)/\↑a<sizeLine/\c b (aO f d (.lst (a++[v]))) else c b e)
def wJ(jx:List (Option Nat))(d:TI)(g:TG)(tt:TT)(e:TE):TE:=fun b H Q=>d b H λJ c=>∀ a,c a=none->rJ J a g tt e (uh jx b) (aO c a (.lst [])) Q
theorem CO{t:Expr}{wi:TI}{ab:TG}{tt:TT}{te:TE}(m:CN X N scope c jx)(hc:X.calm=true)(hi:PI X M t wi)
  (hg:∀ C u v w y,PG (jg X N scope c C u v w y) M ab) (ht:∀ C u v w y,MS (jg X N scope c C u v w y) jV tt) (he:∀ C u v w y,PE (jg X N scope c C u v w y) kG te)
  (hs:∀ x,foldedSetIterable t X.env x=pure x) {use:Option (Value->Sem Unit)} {O:ZB} {Q:VK} {h:List (Addr × Obj)} {s:Shared} {q:_L2.St} {U:Hp} (aq:Inv X h q U s) (ar:wJ jx wi ab tt te q U Q)
  (as:∀ (a:Shared) (i:Hp) (e:WF) (ae:Addr) (n:_L2.St) (p:Hp) (z:Shared),Inv X h q i a->(∀ b∈e,oZ X h i b)->Inv (jg X N scope c a⁻¹ a i e (X.pn++h)) [] n p z->Q ↥ae p->
   compPost (model X.prog X.w) X.A X.xe use O ↥ae a⁻¹ (.ok .next) z) :
  wpAny (model X.prog X.w) X.A (comprehension (.ListComp kG [⟨M,t,jV,0⟩] scope av) scope X.env ja (newList []) false (eval t X.env) use) O X.xe s:=by
 refine wpAny_comprehension_free (use:=use) rfl hs m.clos m.kind m.names (dP (hi h s q U _ aq ar) λag s1 h1=>dP h1 λa2 g h2=>?_);let⟨it,e,F,a2,G,f,I2,T,ai,f2,aw⟩:=h2;subst f;refine wpAny_newObj_type (hd:=by size_fits) ?_;let cO:G g⁻¹=none:=I2.hok.fresh (fF _);let A:Inv X h q (aO G g⁻¹ (.lst [])) { g with heap:=g.heap.push { cls:=.type "h",data:=.seq ([]:WP).toArray },toks:=g.toks }:=I2.Td (ys:=[]) .nil (mR _)
 let ak:∀ b∈e,b<g⁻¹:=λb d=>by
  let⟨o,j,_⟩:=T.obj _ _ ai b d;exact Heap.lt_size j
 let l:∀ b∈e,oZ X h (aO G g⁻¹ (.lst [])) b:=λb d=>⟨by rw[aN (i9 (ak b d))];exact (f2 b d).1,(f2 b d).2⟩;have k3:∀ b o,g.heap.get? b=⇑o->(g.heap.push { cls:=.type "h",data:=.seq ([]:WP).toArray }).get? b=⇑o:=λb o f=>Heap.get?_push_of_some _ f;have q3:=aw _ cO;generalize ax:({ g with heap:=g.heap.push { cls:=.type "h",data:=.seq ([]:WP).toArray },toks:=g.toks }:Shared)=a at A;generalize aw:aO G g⁻¹ (.lst [])=i at A l q3;have G:a.heap=g.heap.push { cls:=.type "h",data:=.seq ([]:WP).toArray }:=by rw[← ax]
 let LG:∀ b∈e,b<a⁻¹:=λb d=>by rw[G,Heap.size_push];exact Nat.lt_succ_of_lt (ak b d)
 let ak:F 0 a.heap:=T.keep _ _ _ ai λb _ o f=>by rw[G];exact k3 b o f
 show wpAny _ _ _ _ _ a;refine wpAny_newFunctionEnv m.cell (λR j=>by simp at j) (λH Fe T4=>?_) m.kind;let G:∀ b o,a.heap.get? b=⇑o->H.get? b=⇑o:=λb o f=>T4.extBut _ _ (i9 (Heap.lt_size f)) (Heap.get?_push_of_some _ f);have J0:Inv (jg X N scope c a⁻¹ a i e (X.pn++h)) [] (uh jx q) i { a with heap:=H,toks:=a.toks+↑([]:List (Str × Value)) }:=yd m A l LG Fe G;have am:F 0 H:=T.keep _ _ _ ak λb _ o f=>G b o f;let⟨W,⟨m0,w0⟩,mT⟩:=q3
 let S:∀ {j:Hp},(∀ b∈e,j b=none)->∀ b∈e,oZ (jg X N scope c a⁻¹ a i e (X.pn++h)) [] j b:=λG b d=>by
  refine⟨G b d,i9 (LG b d),λk=>?_,.inl d,λx B f=>(l b d).2.2.2.2.1 x B (m.sub x B f),λr D=>?_⟩
  ·rcases List.mem_cons.mp (A.wc b k) with f|f
   ·exact (l b d).2.1 f
   ·exact (l b d).2.2.1 f
  ·let B:r∈X.pn++h:=by
    let k:r∈(X.pn++h)++[]:=D;simpa using k
   exact (l b d).2.2.2.2.2 r B
 let an:∀ G:Shared,G={ a with heap:=H,toks:=a.toks+↑([]:List (Str × Value)) }->codeAny (model X.prog X.w) X.A (.compLoop (.ListComp kG [⟨M,t,jV,0⟩] scope av) 0 ↥it ↥g⁻¹ (jg X N scope c a⁻¹ a i e (X.pn++h)).env)
   (compPost (model X.prog X.w) X.A X.xe use O ↥g⁻¹ a⁻¹) G:=by
  rintro G rfl;refine MR (λI r=>∃ k B j,Inv (jg X N scope c a⁻¹ a i e (X.pn++h)) [] B j r/\F k r.heap/\(∀ b∈e,j b=none)/\W k I B j) ?_ m0 ⟨0,_,i,J0,am,λb d=>(l b d).1,w0⟩;rintro I s6 ⟨k,n,p,I6,VW,DQ,w6⟩;rcases mT k I n p w6 with ⟨stop,qn⟩|⟨go,Nx,hN,step⟩
  ·refine dP (T.done (jg X N scope c a⁻¹ a i e (X.pn++h)) rfl rfl rfl hc k [] s6 n p _ I6 (S DQ) VW stop) λaA z r=>?_;let⟨hr,D⟩:=r;subst hr;exact as a i e _ n p z A l D qn
  ·refine dP (T.item (jg X N scope c a⁻¹ a i e (X.pn++h)) rfl rfl rfl hc k [] s6 n p _ I6 (S DQ) VW go) λaA z l=>?_;let⟨aH,hr,h7⟩:=l;subst hr;refine dP h7 λ_ H A=>?_;let⟨x,l,I8,r8,y8,G,TJ⟩:=A;have A:=I8.pinned (S TJ) (T.obj _ _ G);refine dP (hg _ _ _ _ _ _ H n l x aH _ A r8 (step x l y8)) λ_ l A=>?_;let⟨J,S,I9,q9⟩:=A;refine dP (ht _ _ _ _ _ _ l J S _ I9 q9) λok aS l=>?_;let⟨LA,VX,L⟩:=l
   let ap:∀ {l:_L2.St} {A:Hp} {r:Shared},Inv (jg X N scope c a⁻¹ a i e (X.pn++h)) ([]++tT e H.heap) l A r->Nx l A->∃ H,H<I/\∃ k B j,Inv (jg X N scope c a⁻¹ a i e (X.pn++h)) [] B j r/\F k r.heap/\(∀ b∈e,j b=none)/\W k H B j:=λ{l A r} D B=>by
    let⟨F,H,I⟩:=hN l A B;refine⟨F,H,k+1,l,A,D.ou,T.keep _ _ _ G λb d o f=>(D.pin (b,o) (mP _ (mP _ (iI d f)))).1,λb d=>?_,I⟩;let⟨o,f,k⟩:=T.obj _ _ G b d;exact (D.pin (b,o) (mP _ (mP _ (iI d f)))).2.1
   cases ok with
   | false =>
    rw[if_neg gP]at L;exact ap VX L
   | true =>
    rw[if_pos rfl]at L;refine dP (he _ _ _ _ _ _ aS J LA _ VX L) λag r d=>?_;let⟨R,f,k,a0,xs,hx,hz,a1⟩:=d;refine dP (bX _ r J f ↥g⁻¹ [R] ↥g⁻¹ [ag] (λ_ j=>Nx J j) k rfl (.cons a0 .nil) ⟨_,xs,R,V,hx,hz,a1⟩) λ_ f d=>?_;let⟨_,j,f,_,g⟩:=d;exact ap f g
 exact codeAny_compStart_list (an _ rfl) (T.self _ _ _ _ _ am (an _ rfl))
theorem PK{f:Expr}{h:TI}{i:TG}{tt:TT}{j:TE}(m:CN X N scope c jx)(n:X.calm=true)(o:PI X k f h)
  (p:∀ C a b d e,PG (jg X N scope c C a b d e) k i) (q:∀ C a b d e,MS (jg X N scope c C a b d e) r tt) (t:∀ C a b d e,PE (jg X N scope c C a b d e) u j)
  (v:∀ x,foldedSetIterable f X.env x=pure x:=by intro _;rfl):PE X (.ListComp u [⟨k,f,r,0⟩] scope G) (wJ jx h i tt j):=by
 intro l s w H Q I g;rw[eval_ListComp];refine CO (use:=none) m n o p q t v I g λB D F w H y I l z g A=>?_;let⟨B,D,_⟩:=g.loc;exact⟨B,D,λD B=>⟨↥w,y,wI l (wH l z g) g.free B,1,A⟩⟩
theorem T5{a:Expr}{r:Pos}{i:TI}{j:TG}{tt:TT}{k:TE}{l:Nat}{x:Str}(A:CN X N scope c jx)(B:X.calm=true)(G:X.N.Nodup)(H:X.N[l]?=⇑x)(t:X.env.scope.names.lookup x=⇑.local)(I:PI X g a i)
  (J:∀ C b d e f,PG (jg X N scope c C b d e f) g j) (L:∀ C b d e f,MS (jg X N scope c C b d e f) m tt) (M:∀ C b d e f,PE (jg X N scope c C b d e f) n k)
  (O:swapsWith (.ListComp n [⟨g,a,m,0⟩] scope u) (⇑(.Name x o)) r.line X.env=pure true:=by rfl)
  (T:∀ x,foldedSetIterable a X.env x=pure x:=by intro _;rfl):PS X (.Assign [.Name x o] (.ListComp n [⟨g,a,m,0⟩] scope u) r) (OE (wJ jx i j tt k) (qC l)):=by
 intro F s v R D S U;rw[exec_Assign_Name_used _ _ _ _ O];refine wpAny_bind (wpAny_standAt (wpAny_bind ?_));show wpAny _ X.A (do let _ ← comprehension (.ListComp n [⟨g,a,m,0⟩] scope u) scope X.env _ (newList []) false (eval a X.env) (⇑(assign (.Name x o) X.env))) _ _ s;let w:wJ jx i j tt k v R (λy h=>qC l y v h D.nx):=U;refine wpAny_bind (dP (CO (use:=⇑(assign (.Name x o) X.env)) (O:=λ_ v=>∃ p h,Inv X F p h v/\D.nx p h) A B I J L M T S w λW R S D U H6 s7 h F p qn=>?_) λ_ v ab=>?_)
 ·let v:=wH h F p;let⟨ae,hm,_⟩:=p.loc;refine wpAny_assign_Name (Cd v G H (.inl t) (T:=↥D) rfl (λv I8 ⟨z,T4,q⟩=>?_) (.inr t))
  let na:W⁻¹≠z:=by
   rcases q with rfl|q
   ·exact Nat.ne_of_gt h.lt
   ·intro D;let⟨y,v,y,_⟩:=h.cell x z q;exact absurd (Heap.lt_size y) (by rw[D];exact Nat.lt_irrefl _)
  refine⟨ae,hm.at' λv q=>T4.extBut _ v na q,λw q=>⟨_,H6,wI h I8 p.free q,qn⟩⟩
 ·exact wpAny_pure (wpAny_pure ab)
theorem gv{K:Frag}{h:Addr}{a:List V}{j:TG}{tt:TT}{k:TE}{l:_L2.St}{H:Hp}{Q:VK}(d:Nat->_L2.St->Hp->Prop)(r:d 0 l H)(t:∀ i b H,i<=↑a->d i b H->bJ K H h a)
  (u:∀ i x b H,a[i]?=⇑x->d i b H->j x b H fun e v=>tt e v λw m=>if w=true then k e m λz n=>∃ f,n g=⇑(.lst f)/\↑f<sizeLine/\d (i+1) e (aO n g (.lst (f++[z]))) else d (i+1) e m)
  (A:∀ b H,d ↑a b H->Q ↥g H):rJ (OH K h) g j tt k l H Q:=by
 refine⟨λi o b H=>o=↑a-i/\i<=↑a/\d i b H,⟨↑a,by simp,mR _,r⟩,?_⟩;rintro i o b H ⟨rfl,o,p⟩;let q:=t i b H o p;by_cases o:i<↑a
 ·refine .inr ⟨⟨a,a[i],q,by simp[o]⟩,d (i+1),fun C s B=>⟨↑a-(i+1),by lia,1,o,B⟩,λx s y=>?_⟩;let⟨c,y⟩:=y;subst c;exact u i x b _ (y a q) p
 ·let c:i=↑a:=by lia
  subst c;exact .inl ⟨⟨a,q,fF _⟩,A b H p⟩
theorem qR{lo:Int}{k:Nat}{h:TG}{tt:TT}{j:TE}{l:_L2.St}{H:Hp}{Q:VK}(b:Nat->_L2.St->Hp->Prop)(q:b 0 l H)
  (r:∀ i a H,i<k->b i a H->h (.int (lo+i)) a H fun d t=>tt d t λu m=>if u=true then j d m λv n=>∃ e,n f=⇑(.lst e)/\↑e<sizeLine/\b (i+1) d (aO n f (.lst (e++[v]))) else b (i+1) d m)
  (w:∀ a H,b k a H->Q ↥f H):rJ (K9 lo k) f h tt j l H Q:=by
 refine⟨λi o a H=>o=k-i/\i<=k/\b i a H,⟨k,by simp,mR _,q⟩,?_⟩;rintro i o a H ⟨rfl,o,p⟩;by_cases c:i<k
 ·refine .inr ⟨c,b (i+1),fun x o s=>⟨k-(i+1),by lia,1,c,s⟩,λx o y=>?_⟩;let⟨g,y⟩:=y;subst g y;exact r i a _ c p
 ·let g:i=k:=by lia
  subst g;exact .inl ⟨Nat.le_refl _,w a H p⟩
end
section
variable {X:Cx} {N:UV} {scope:Scope} {cl:List (Str × Addr)} {C:Addr} {s₀:Shared} {H₀:Hp} {ex:WF} {pn:List (Addr × Obj)}
theorem rK{a:List Expr}{k:Nat}{t:Xi}{n:Nat}(b:X.calm=true)(h:a' (jg X N scope cl C s₀ H₀ ex pn) a t)
  (c:↑(assignEach a (jg X N scope cl C s₀ H₀ ex pn).env)=n:=by rfl) (d:(assignEach a (jg X N scope cl C s₀ H₀ ex pn).env).findIdx? (·.1)=none:=by rfl):PG (jg X N scope cl C s₀ H₀ ex pn) (.Tuple a k e) (Xk X.K n t):=j6 (X:=jg X N scope cl C s₀ H₀ ex pn) b h c d
theorem Gb{l:Expr}{a:TE}(b:PE (jg X N scope cl C s₀ H₀ ex pn) l a):PI (jg X N scope cl C s₀ H₀ ex pn) c l (VJ X.K a):=cC b
theorem Ge:Xy (jg X N scope cl C s₀ H₀ ex pn) (ib X.K):=bK
theorem yR:Xy (jg X N scope cl C s₀ H₀ ex pn) (ih X.K):=bh
theorem Ag:tV (jg X N scope cl C s₀ H₀ ex pn) (compareOp .NotIn) (f' X.K true):=o6
end
def DS{b:Cx}:jB b (.type "y") (λa H Q=>∃ j:Int,a=[.int j]/\∀ p,H p=none->Q ↥p (aO H p (.Fq 0 j))):=by
 intro c s d H a e Q I r h;let⟨j,rfl,q⟩:=h;let⟨f,rfl,⟨t,rfl⟩⟩:=r.one;refine call_range_1 ⟨↥s⁻¹,_,I.laid (o:=.Fq 0 j) (λc o e=>Heap.get?_push_of_some _ e) (fF _) ⟨Q,Heap.get?_push_size _ rfl⟩,1,q _ (I.hok.fresh (fF _))⟩
theorem wK{n:Scope}{d:Env}(y:∀ p∈n.names,p.2=.free->∃ c,d.cells.lookup p.1=⇑c) :
  ∃ a,closureFor n d=pure a/\(∀ x c,a.lookup x=⇑c->d.cells.lookup x=⇑c)/\(∀ p∈n.names,p.2=.free->∃ c,a.lookup p.1=⇑c):=by
 unfold closureFor
 let z:∀ (l:List (Str × NameKind)) (f:List (Str × Addr)),(∀ p∈l,p.2=.free->∃ c,d.cells.lookup p.1=⇑c)->(∀ x c,f.lookup x=⇑c->d.cells.lookup x=⇑c)->
   ∃ a,(forIn l f (λp r=>if (p.2 == NameKind.free)=true then do let c ← cellOf d p.1;pure (ForInStep.yield ((p.1,c)::r)) else pure (ForInStep.yield r)):Sem (List (Str × Addr)))=pure a/\(∀ x c,a.lookup x=⇑c->d.cells.lookup x=⇑c)/\(∀ p∈l,p.2=.free->∃ c,a.lookup p.1=⇑c)/\(∀ x c,f.lookup x=⇑c->∃ c,a.lookup x=⇑c):=by
  intro l
  induction l with
  | nil=>intro f _ o;exact⟨f,1,o,(λp g=>by cases g),λx c e=>⟨c,e⟩⟩
  | cons p l v =>
   intro f s o;rw[List.forIn_cons];by_cases g:p.2=.free
   ·let⟨c,w⟩:=s p qx g;let t:(p.2 == NameKind.free)=true:=by rw[g];rfl
    let l:cellOf d p.1=pure c:=by
     unfold cellOf;rw[w]
    rw[if_pos t,l];simp only[pure_bind]
    let⟨a,i,j,k,m⟩:=v ((p.1,c)::f) (λq b=>s q (j0 _ b)) (λx u e=>by
     rw[List.lookup_cons]at e
     cases h:x == p.1 with
     | true =>
      rw[h]at e;cases e;rw[eq_of_beq h];exact w
     | false =>
      rw[h]at e
      exact o x u e)
    refine⟨a,i,j,λq b r=>?_,λx u e=>?_⟩
    ·rcases List.mem_cons.mp b with rfl|b
     ·exact m q.1 c (by rw[List.lookup_cons];simp)
     ·exact k q b r
    ·cases h:x == p.1 with
     | true=>exact m x c (by rw[List.lookup_cons,h])
     | false=>exact m x u (by rw[List.lookup_cons,h];exact e)
   ·let t:¬ (p.2 == NameKind.free)=true:=λe=>g (eq_of_beq e);rw[if_neg t];simp only[pure_bind];let⟨a,i,j,k,m⟩:=v f (λq b=>s q (j0 _ b)) o;refine⟨a,i,j,λq b r=>?_,m⟩;rcases List.mem_cons.mp b with rfl|b
    ·exact absurd r g
    ·exact k q b r
 let⟨a,i,j,k,_⟩:=z n.names [] y (λx c e=>by cases e);refine⟨a,?_,j,k⟩;rw[← i];simp only[bind_pure]
theorem m8{a:Env}:∀ {f:List (Str × NameKind)} {x:Str} {k:NameKind},f.lookup x=⇑k->
  (f.map λ(n,k)=>if (k == NameKind.free&&a.scope.kind == .function&&a.kindOf n == some .cell) then (n,NameKind.cell) else (n,k)).lookup x=⇑(if (k == NameKind.free&&a.scope.kind == .function&&a.kindOf x == some .cell) then NameKind.cell else k)
 | [],_,_,h=>by cases h
 | (n,b)::r,x,k,h=>by
  rw[iu];by_cases d:(x == n)=true
  ·let e:x=n:=eq_of_beq d;subst e;rw[List.lookup_cons,d]at h;cases h;by_cases c:(b == NameKind.free&&a.scope.kind == .function&&a.kindOf x == some .cell)=true
   ·show List.lookup x ((if (b == NameKind.free&&a.scope.kind == .function&&a.kindOf x == some .cell)=true then (x,NameKind.cell) else (x,b))::_)=_;rw[if_pos c,if_pos c,List.lookup_cons,d]
   ·show List.lookup x ((if (b == NameKind.free&&a.scope.kind == .function&&a.kindOf x == some .cell)=true then (x,NameKind.cell) else (x,b))::_)=_;rw[if_neg c,if_neg c,List.lookup_cons,d]
  ·let e:(x == n)=false:=by simpa using d
   rw[List.lookup_cons,e]at h;let d:=m8 (a:=a) h;show List.lookup x ((if (b == NameKind.free&&a.scope.kind == .function&&a.kindOf n == some .cell)=true then (n,NameKind.cell) else (n,b))::_)=_;by_cases c:(b == NameKind.free&&a.scope.kind == .function&&a.kindOf n == some .cell)=true
   ·rw[if_pos c,List.lookup_cons,e];exact d
   ·rw[if_neg c,List.lookup_cons,e];exact d
theorem lS{a:Env}:∀ {d:List (Str × NameKind)} {x:Str},d.lookup x=none->
  (d.map λ(n,k)=>if (k == NameKind.free&&a.scope.kind == .function&&a.kindOf n == some .cell) then (n,NameKind.cell) else (n,k)).lookup x=none
 | [],_,_=>rfl
 | (n,b)::r,x,h=>by
  rw[iu]
  let c:(x == n)=false:=by
   cases b:x == n with
   | false=>rfl
   | true=>rw[List.lookup_cons,b]at h;cases h
  rw[List.lookup_cons,c]at h;let e:=lS (a:=a) h;show List.lookup x ((if (b == NameKind.free&&a.scope.kind == .function&&a.kindOf n == some .cell)=true then (n,NameKind.cell) else (n,b))::_)=_;by_cases f:(b == NameKind.free&&a.scope.kind == .function&&a.kindOf n == some .cell)=true
  ·rw[if_pos f,List.lookup_cons,c];exact e
  ·rw[if_neg f,List.lookup_cons,c];exact e
structure CP(X:Cx)(N:UV)(scope:Scope)(jx:List (Option Nat)):Prop where
 kind:scope.kind=.function
 cell:∀ x∈scope.names,x.2≠.cell
 names:∀ x∈scope.names,x.2=.local->scope.names.lookup x.1=⇑.local
 xk:X.env.scope.kind=.function
 fr:∀ x∈scope.names,x.2=.free->X.env.scope.names.lookup x.1=⇑.cell
 len:↑jx=↑N
 free:∀ (i j:Nat) (x:Str),jx[i]?=⇑(⇑j)->N[i]?=⇑x->X.N[j]?=⇑x/\scope.names.lookup x=⇑.free
def PM(a N:UV)(b:Scope)(c:List (Option Nat)):Bool:=(c.zip N).all λp=>match p.1 with
 | none=>true
 | some j=>decide (a[j]?=⇑p.2)&&decide (b.names.lookup p.2=⇑.free)
theorem jJ{b:Cx}{N f:UV}{a c:Scope}{d:List (Option Nat)}(g:b.env.scope=c)(h:b.N=f)(k:a.kind=.function)(i:∀ x∈a.names,x.2≠.cell)(j:∀ x∈a.names,x.2=.local->a.names.lookup x.1=⇑.local)
  (l:c.kind=.function) (m:∀ x∈a.names,x.2=.free->c.names.lookup x.1=⇑.cell) (n:↑d=↑N) (e:PM f N a d=true):CP b N a d:=by
 refine⟨k,i,j,by rw[g];exact l,by rw[g];exact m,n,λo p x q r=>?_⟩;rw[h];unfold PM at e;rw[List.all_eq_true]at e;let z:=e (⇑p,x) (mC (i:=o) (by rw[List.getElem?_zip_eq_some];exact⟨q,r⟩));simp only[Bool.and_eq_true,decide_eq_true_eq]at z;exact z
section
variable {X:Cx} {N:UV} {scope:Scope} {jx:List (Option Nat)}
def CP.toF{g:_L2.St}{H:Hp}{s:Shared}(a:CP X N scope jx)(I:Inv X v g H s):∃ c,CN X N scope c jx:=by
 let⟨c,h,i,j⟩:=wK (n:=scope) (d:=X.env) λp l m=>I.ok.has p.1 (.inl (a.fr p l m))
 let n:∀ x,scope.names.lookup x=⇑.free->(relabel scope X.env).names.lookup x=⇑.cell:=λx b=>by
  let z:=m8 (a:=X.env) b
  let d:(NameKind.free == NameKind.free&&X.env.scope.kind == .function&&X.env.kindOf x == some .cell)=true:=by
   let q:X.env.kindOf x=⇑.cell:=a.fr (x,.free) (PySem.mem_of_lookup b) rfl;rw[a.xk,q];rfl
  rw[if_pos d]at z;exact z
 refine⟨c,a.kind,a.cell,a.names,h,i,λx b=>?_,a.len,λo r x t u=>?_⟩
 ·cases e:scope.names.lookup x with
  | none =>
   let z:(relabel scope X.env).names.lookup x=none:=lS (a:=X.env) e;rw[z]at b
   rcases b with q|q <;> cases q
  | some k =>
   by_cases f:k=.free
   ·subst f;exact j (x,.free) (PySem.mem_of_lookup e) rfl
   ·let z:(relabel scope X.env).names.lookup x=⇑(if (k == NameKind.free&&X.env.scope.kind == .function&&X.env.kindOf x == some .cell) then NameKind.cell else k):=m8 (a:=X.env) e
    let d:(k == NameKind.free)=false:=by
     cases q:k == NameKind.free with
     | false=>rfl
     | true=>exact absurd (eq_of_beq q) f
    rw[d]at z;simp only[Bool.false_and,Bool.false_eq_true,if_false]at z;rw[z]at b;rcases b with q|q
    ·cases q;exact absurd rfl (a.cell (x,.cell) (PySem.mem_of_lookup e))
    ·cases q;exact absurd rfl f
 ·let⟨b,d⟩:=a.free o r x t u;exact⟨b,a.fr (x,.free) (PySem.mem_of_lookup d) rfl,n x d⟩
theorem gO{f:Expr}{g:TI}{h:TG}{tt:TT}{i:TE}(k:CP X N scope jx)(l:X.calm=true)(m:PI X j f g)
  (n:∀ a C b c d e,PG (jg X N scope a C b c d e) j h) (o:∀ a C b c d e,MS (jg X N scope a C b c d e) p tt) (q:∀ a C b c d e,PE (jg X N scope a C b c d e) r i)
  (t:∀ x,foldedSetIterable f X.env x=pure x:=by intro _;rfl):PE X (.ListComp r [⟨j,f,p,0⟩] scope z) (wJ jx g h tt i):=by
 intro u s v H Q I w;let⟨a,y⟩:=k.toF I;exact PK y l m (n a) (o a) (q a) t u s v H Q I w
theorem LH{f:Expr}{h:Pos}{i:TI}{j:TG}{tt:TT}{k:TE}{l:Nat}{x:Str}(o:CP X N scope jx)(p:X.calm=true)(q:X.N.Nodup)(r:X.N[l]?=⇑x)(t:X.env.scope.names.lookup x=⇑.local)(u:PI X g f i)
  (v:∀ a C b c d e,PG (jg X N scope a C b c d e) g j) (w:∀ a C b c d e,MS (jg X N scope a C b c d e) m tt) (y:∀ a C b c d e,PE (jg X N scope a C b c d e) n k)
  (z:swapsWith (.ListComp n [⟨g,f,m,0⟩] scope A) (⇑(.Name x B)) h.line X.env=pure true:=by rfl)
  (D:∀ x,foldedSetIterable f X.env x=pure x:=by intro _;rfl):PS X (.Assign [.Name x B] (.ListComp n [⟨g,f,m,0⟩] scope A) h) (OE (wJ jx i j tt k) (qC l)):=by
 intro F s G H J I L;let⟨a,M⟩:=o.toF I;exact T5 M p q r t u (v a) (w a) (y a) z D F s G H J I L
end
end _cN
namespace _cN
open Spec Rows _L2
section
variable {X:Cx} {N:UV} {scope:Scope} {c:List (Str × Addr)} {jx:List (Option Nat)}
def Gf(J:It)(d:Addr)(g:TG)(tt:TT)(h:TI)(j:TG)(k:TT)(l:TE)(n:_L2.St)(H:Hp)(Q:VK):Prop :=
 ∃ W:Nat->Nat->_L2.St->Hp->Prop,(∃ m,W 0 m n H)/\∀ i m c H,W i m c H->
  (J.stop i H/\Q ↥d H)\/(J.go i H/\∃ b:_L2.St->Hp->Prop,(∀ e a,b e a->∃ f,f<m/\W (i+1) f e a)/\∀ x a,J.OG i H x a->g x c a fun c e=>tt c e λe a =>
   if e=true then Jk h d j k l c a b else b c a)
def LI(jx:List (Option Nat))(d:TI)(g:TG)(tt:TT)(e:TI)(f:TG)(h:TT)(i:TE):TE:=fun b H Q=>d b H λJ c=>∀ a,c a=none->Gf J a g tt e f h i (uh jx b) (aO c a (.lst [])) Q
theorem Jr{y:Expr}{wi Jl:TI}{ae g2:TG}{tt Jm:TT}{te:TE}(r:CN X N scope c jx)(M:X.calm=true)(hi:PI X O y wi)
  (hg:∀ C j k l m,PG (jg X N scope c C j k l m) O ae) (ht:∀ C j k l m,MS (jg X N scope c C j k l m) jV tt) (ZG:∀ C j k l m,PI (jg X N scope c C j k l m) U eX Jl) (ar:∀ C j k l m,PG (jg X N scope c C j k l m) U g2) (Js:∀ C j k l m,MS (jg X N scope c C j k l m) ju Jm) (he:∀ C j k l m,PE (jg X N scope c C j k l m) kG te)
  (hs:∀ x,foldedSetIterable y X.env x=pure x) (Il:∀ (as:Env) x,foldedSetIterable eX as x=pure x) {use:Option (Value->Sem Unit)} {Q':ZB} {Q:VK} {g:List (Addr × Obj)} {s:Shared} {v:_L2.St} {ab:Hp} (av:Inv X g v ab s) (aw:LI jx wi ae tt Jl g2 Jm te v ab Q)
  (ax:∀ (a:Shared) (h:Hp) (e:WF) (ag:Addr) (t:_L2.St) (u:Hp) (z:Shared),Inv X g v h a->(∀ b∈e,oZ X g h b)->Inv (jg X N scope c a⁻¹ a h e (X.pn++g)) [] t u z->Q ↥ag u->
   compPost (model X.prog X.w) X.A X.xe use Q' ↥ag a⁻¹ (.ok .next) z) :
  wpAny (model X.prog X.w) X.A (comprehension (.ListComp kG [⟨O,y,jV,0⟩,⟨U,eX,ju,0⟩] scope aA) scope X.env ja (newList []) false (eval y X.env) use) Q' X.xe s:=by
 refine wpAny_comprehension_free (use:=use) rfl hs r.clos r.kind r.names (dP (hi g s v ab _ av aw) λa1 s1 h1=>dP h1 λa1 i h2=>?_);let⟨it,e,G,a1,H,f,S,T,ai,f2,aH⟩:=h2;subst f;refine wpAny_newObj_type (hd:=by size_fits) ?_;let cO:H i⁻¹=none:=S.hok.fresh (fF _);let A:Inv X g v (aO H i⁻¹ (.lst [])) { i with heap:=i.heap.push { cls:=.type "h",data:=.seq ([]:WP).toArray },toks:=i.toks }:=S.Td (ys:=[]) .nil (mR _)
 let ak:∀ b∈e,b<i⁻¹:=λb d=>by
  let⟨o,n,_⟩:=T.obj _ _ ai b d;exact Heap.lt_size n
 let q:∀ b∈e,oZ X g (aO H i⁻¹ (.lst [])) b:=λb d=>⟨by rw[aN (i9 (ak b d))];exact (f2 b d).1,(f2 b d).2⟩;have k3:∀ b o,i.heap.get? b=⇑o->(i.heap.push { cls:=.type "h",data:=.seq ([]:WP).toArray }).get? b=⇑o:=λb o f=>Heap.get?_push_of_some _ f;have q3:=aH _ cO;generalize aS:({ i with heap:=i.heap.push { cls:=.type "h",data:=.seq ([]:WP).toArray },toks:=i.toks }:Shared)=a at A;generalize S:aO H i⁻¹ (.lst [])=h at A q q3;have H:a.heap=i.heap.push { cls:=.type "h",data:=.seq ([]:WP).toArray }:=by rw[← aS]
 let S:∀ b∈e,b<a⁻¹:=λb d=>by rw[H,Heap.size_push];exact Nat.lt_succ_of_lt (ak b d)
 let ak:G 0 a.heap:=T.keep _ _ _ ai λb _ o f=>by rw[H];exact k3 b o f
 show wpAny _ _ _ _ _ a;refine wpAny_newFunctionEnv r.cell (λp n=>by simp at n) (λI Fe T4=>?_) r.kind;let H:∀ b o,a.heap.get? b=⇑o->I.get? b=⇑o:=λb o f=>T4.extBut _ _ (i9 (Heap.lt_size f)) (Heap.get?_push_of_some _ f);have J0:Inv (jg X N scope c a⁻¹ a h e (X.pn++g)) [] (uh jx v) h { a with heap:=I,toks:=a.toks+↑([]:List (Str × Value)) }:=yd r A q S Fe H;have am:G 0 I:=T.keep _ _ _ ak λb _ o f=>H b o f;let⟨W,⟨m0,w0⟩,mT⟩:=q3
 let R:∀ {n:Hp},(∀ b∈e,n b=none)->∀ b∈e,oZ (jg X N scope c a⁻¹ a h e (X.pn++g)) [] n b:=λH b d=>by
  refine⟨H b d,i9 (S b d),λp=>?_,.inl d,λx B f=>(q b d).2.2.2.2.1 x B (r.sub x B f),λw D=>?_⟩
  ·rcases List.mem_cons.mp (A.wc b p) with f|f
   ·exact (q b d).2.1 f
   ·exact (q b d).2.2.1 f
  ·let B:w∈X.pn++g:=by
    let p:w∈(X.pn++g)++[]:=D;simpa using p
   exact (q b d).2.2.2.2.2 w B
 let an:∀ H:Shared,H={ a with heap:=I,toks:=a.toks+↑([]:List (Str × Value)) }->codeAny (model X.prog X.w) X.A (.compLoop (.ListComp kG [⟨O,y,jV,0⟩,⟨U,eX,ju,0⟩] scope aA) 0 ↥it ↥i⁻¹ (jg X N scope c a⁻¹ a h e (X.pn++g)).env)
   (compPost (model X.prog X.w) X.A X.xe use Q' ↥i⁻¹ a⁻¹) H:=by
  rintro H rfl;refine TH (λJ i=>∃ p w n,Inv (jg X N scope c a⁻¹ a h e (X.pn++g)) [] w n i/\G p i.heap/\(∀ b∈e,n b=none)/\W p J w n) (Il _) ?_ m0 ⟨0,_,h,J0,am,λb d=>(q b d).1,w0⟩;rintro J s6 ⟨p,t,u,I6,VW,DQ,w6⟩;rcases mT p J t u w6 with ⟨stop,qn⟩|⟨go,Nx,hN,step⟩
  ·refine dP (T.done (jg X N scope c a⁻¹ a h e (X.pn++g)) rfl rfl rfl M p [] s6 t u _ I6 (R DQ) VW stop) λap z i=>?_;let⟨B,D⟩:=i;subst B;exact ax a h e _ t u z A q D qn
  ·refine dP (T.item (jg X N scope c a⁻¹ a h e (X.pn++g)) rfl rfl rfl M p [] s6 t u _ I6 (R DQ) VW go) λap z i=>?_;let⟨a0,B,h7⟩:=i;subst B;refine dP h7 λ_ H q=>?_;let⟨x,i,I,S,y8,A,TJ⟩:=q;have q:=I.pinned (R TJ) (T.obj _ _ A);refine dP (hg _ _ _ _ _ _ H t i x a0 _ q S (step x i y8)) λ_ i q=>?_;let⟨I,R,S,q9⟩:=q;refine dP (ht _ _ _ _ _ _ i I R _ S q9) λok q i=>?_;let⟨q,VX,L⟩:=i
   let aq:∀ {i:_L2.St} {q:Hp} {F:Shared},Inv (jg X N scope c a⁻¹ a h e (X.pn++g)) ([]++tT e H.heap) i q F->Nx i q->∃ H,H<J/\∃ p w n,Inv (jg X N scope c a⁻¹ a h e (X.pn++g)) [] w n F/\G p F.heap/\(∀ b∈e,n b=none)/\W p H w n:=λ{i q F} D G=>by
    let⟨H,I,J⟩:=hN i q G;refine⟨H,I,p+1,i,q,D.ou,T.keep _ _ _ A λb d o f=>(D.pin (b,o) (mP _ (mP _ (iI d f)))).1,λb d=>?_,J⟩;let⟨o,f,i⟩:=T.obj _ _ A b d;exact (D.pin (b,o) (mP _ (mP _ (iI d f)))).2.1
   cases ok with
   | false =>
    rw[if_neg gP]at L;exact aq VX L
   | true =>
    rw[if_pos rfl]at L;refine dP (MX (Y:=jg X N scope c a⁻¹ a h e (X.pn++g)) M rfl (ZG _ _ _ _ _) (ar _ _ _ _ _) (Js _ _ _ _ _) (he _ _ _ _ _) VX L) λx F d=>dP d λf i d=>codeAny_mono d λap i ⟨B,w,n,d,f⟩=>⟨B,aq d f⟩
 exact codeAny_compStart_list (an _ rfl) (T.self _ _ _ _ _ am (an _ rfl))
theorem wL{f:Expr}{r:Pos}{h i:TI}{j k:TG}{tt l:TT}{m:TE}(t:CP X N scope jx)(u:X.calm=true)(v:PI X n f h)
  (w:∀ c C a b d e,PG (jg X N scope c C a b d e) n j) (y:∀ c C a b d e,MS (jg X N scope c C a b d e) z tt)
  (A:∀ c C a b d e,PI (jg X N scope c C a b d e) o p i) (B:∀ c C a b d e,PG (jg X N scope c C a b d e) o k) (D:∀ c C a b d e,MS (jg X N scope c C a b d e) G l) (H:∀ c C a b d e,PE (jg X N scope c C a b d e) J m)
  (L:∀ x,foldedSetIterable f X.env x=pure x:=by intro _;rfl) (M:∀ (O:Env) x,foldedSetIterable p O x=pure x:=by intro _ _;rfl) :
  PE X (.ListComp J [⟨n,f,z,0⟩,⟨o,p,G,0⟩] scope r) (LI jx h j tt i k l m):=by
 intro q s F R Q I g;let⟨c,q⟩:=t.toF I;rw[eval_ListComp];refine Jr (use:=none) q u v (w c) (y c) (A c) (B c) (D c) (H c) L M I g λT U W F ab I s7 q R g S=>?_;let⟨T,U,_⟩:=g.loc;exact⟨T,U,λU T=>⟨↥F,I,wI q (wH q R g) g.free T,1,S⟩⟩
theorem qS{K:Frag}{f:Addr}{a:List V}{g:TG}{tt:TT}{h:TI}{j:TG}{k:TT}{l:TE}{m:_L2.St}{H:Hp}{Q:VK}(d:Nat->_L2.St->Hp->Prop)(t:d 0 m H)(u:∀ i b H,i<=↑a->d i b H->bJ K H f a)
  (v:∀ i x b H,a[i]?=⇑x->d i b H->g x b H fun e w=>tt e w λz n=>if z=true then Jk h o j k l e n (d (i+1)) else d (i+1) e n)
  (A:∀ b H,d ↑a b H->Q ↥o H):Gf (OH K f) o g tt h j k l m H Q:=by
 refine⟨λi r b H=>r=↑a-i/\i<=↑a/\d i b H,⟨↑a,by simp,mR _,t⟩,?_⟩;rintro i r b H ⟨rfl,r,p⟩;let q:=u i b H r p;by_cases r:i<↑a
 ·refine .inr ⟨⟨a,a[i],q,by simp[r]⟩,d (i+1),fun C s B=>⟨↑a-(i+1),by lia,1,r,B⟩,λx s y=>?_⟩;let⟨c,y⟩:=y;subst c;exact v i x b _ (y a q) p
 ·let c:i=↑a:=by lia
  subst c;exact .inl ⟨⟨a,q,fF _⟩,A b H p⟩
theorem Ah{K:Frag}{j:Addr}{b:List V}{t:TG}{tt:TT}{u:TE}{a:_L2.St}{H:Hp}{w:_L2.St->Hp->Prop}(e:Nat->_L2.St->Hp->Prop)(B:e 0 a H)(C:∀ i a H,i<=↑b->e i a H->bJ K H j b)
  (D:∀ i x a H,b[i]?=⇑x->e i a H->t x a H fun d k=>tt d k λl g=>if l=true then u d g λv h=>∃ n,h o=⇑(.lst n)/\↑n<sizeLine/\e (i+1) d (aO h o (.lst (n++[v]))) else e (i+1) d g)
  (G:∀ a H,e ↑b a H->w a H):∃ W:Nat->Nat->_L2.St->Hp->Prop,(∃ m,W 0 m a H)/\∀ i m a H,W i m a H->
  ((OH K j).stop i H/\w a H)\/((OH K j).go i H/\∃ p:_L2.St->Hp->Prop,(∀ q f,p q f->∃ z,z<m/\W (i+1) z q f)/\∀ x f,(OH K j).OG i H x f->t x a f fun d k=>tt d k λl g =>
   if l=true then u d g λv h=>∃ b,h o=⇑(.lst b)/\↑b<sizeLine/\p d (aO h o (.lst (b++[v]))) else p d g):=by
 refine⟨λi m a H=>m=↑b-i/\i<=↑b/\e i a H,⟨↑b,by simp,mR _,B⟩,?_⟩;rintro i m a H ⟨rfl,A,c⟩;let r:=C i a H A c;by_cases A:i<↑b
 ·refine .inr ⟨⟨b,b[i],r,by simp[A]⟩,e (i+1),fun q f F=>⟨↑b-(i+1),by lia,1,A,F⟩,λx f y=>?_⟩;let⟨s,y⟩:=y;subst s;exact D i x a _ (y b r) c
 ·let s:i=↑b:=by lia
  subst s;exact .inl ⟨⟨b,r,fF _⟩,G a H c⟩
end
end _cN
namespace _cN
open Spec Rows _L2
open AutoSeq1 (wpAny_loadPart')
section
variable {prog:Program} {w:World} {A:Around} {E:ZB} {s:Shared} {κ:Type} [DecidableEq κ] {knd:KeyKind prog w κ}
def M5{d:Addr}{Q:Bool->Shared->Prop}(a:s.TypeIs ↥d "4")(h:Q false s):wpAny (model prog w) A (Builtin.List.listLengthHint ↥d) Q E s:=by
 unfold Builtin.List.listLengthHint;refine wpAny_bind (wpAny_specialOf a F.slot_dict_len.lookup ?_);generalize b:("dict.__len__":String)=c
 wp_delta
 rw[show splitId c=⇑("4","__len__") by subst b;decide +kernel];subst b;refine wpAny_bind (wpAny_isInstance (T:="4") (b:=true) a (by rw[isSubtype_type];kernel_rfl) ?_);refine wpAny_ite_split (λq=>absurd q (by decide)) λ_=>?_;refine wpAny_ite_split (λ_=>?_) λq=>absurd nofun q;exact wpAny_bind (wpAny_typeOf a (wpAny_pure h))
theorem Gg{k:X2}{d:Addr}{c:List (κ × Value)}{h:Nat}(H:A.handled=none)(I:(d == sysModules)=false)(j:s.heap.DictAt knd d c h)(J:↑c<=sizeLine)(a:Addr)(n:Value)(L:Nat)(p:s.heap.get? a=some { cls:=.type "h",data:=.seq #[] L })
  (M:∀ q N l i,(∀ b o,b≠a->s.heap.get? b=⇑o->q.get? b=⇑o)->q.get? a=some { cls:=.type "h",dict:=none,data:=.seq l i,slots:=#[] }->
   ItemsOf (λO T=>∃ x U,c[O]?=⇑(x,U)/\knd.is x T=true) l ↑c->k (.ok (.ret n)) { s with heap:=q,toks:=N }) :
  wpAny (model prog w) A.in1 (Builtin.List.listExtendWith ↥a ↥d n)
   (λab g=>match ab with|.done ae=>k (.ok ae) g|.again i=>i.quiet=true/\codeAny (model prog w) A i k g) (λe g=>k (.error e) g) s:=by
 let y:s.TypeIs ↥d "4":=by
  let⟨o,m,f,t,_⟩:=j;exact⟨o,f,t.1⟩
 let r:a≠d:=λe=>by
  let⟨o,m,f,t,u,_⟩:=j;rw[← e,p]at f;cases f;cases u
 let R:a<s⁻¹:=Heap.lt_size p
 let S:d<s⁻¹:=by
  let⟨o,m,f,_⟩:=j;exact Heap.lt_size f
 let B:a≠s⁻¹:=i9 R;let R:d≠s⁻¹:=i9 S;let W:=(Walks.dictKeys (prog:=prog) (w:=w) (A:=A.in1) (knd:=knd) H s⁻¹ d R c h).toS;unfold Builtin.List.listExtendWith;refine wpAny_bind (wpAny_typeOf y ?_);let R:Builtin.List.listSameRef ↥a ↥d=false:=by simp[Builtin.List.listSameRef,r]
 let S:(Value.type "4" == Value.type "h")=false:=by decide
 let X:(Value.type "4" == Value.type "s")=false:=by decide
 simp only[R,S,X,Bool.or_false,Bool.false_eq_true,if_false];refine wpAny_bind (wpAny_pyIter_dict I j ?_);let C:(s.heap.push { cls:=.type "dict_keyiterator",data:=.fields (List.toArray [↥d,.int 0 0,.int ↑c 0,.int h 0]) }).IsKeyIter s⁻¹ d 0 ↑c h:=⟨_,Heap.get?_push_size _ rfl,V⟩;let iS:∀ b o,s.heap.get? b=⇑o->(s.heap.push { cls:=.type "dict_keyiterator",data:=.fields (List.toArray [↥d,.int 0 0,.int ↑c 0,.int h 0]) }).get? b=⇑o:=λb o e=>Heap.get?_push_of_some _ e;generalize s.heap.push { cls:=.type "dict_keyiterator",data:=.fields (List.toArray [↥d,.int 0 0,.int ↑c 0,.int h 0]) }=t at C iS
 let R:({ s with heap:=t }:Shared).TypeIs ↥d "4":=by
  let⟨o,f,m⟩:=y;exact⟨o,iS _ _ f,m⟩
 refine wpAny_bind (wpAny_holding (M5 R ?_));refine wpAny_ite_split (λ_=>?_) λu=>absurd nofun u;refine wpAny_bind (wpAny_rule (wpAny_bind ?_));show wpAny _ A.in1 (updateSeq a (λz=>z.push .none) >>= λ_=>updateSeq a λz=>z.pop) _ _ _;have D:=iS _ _ p;refine wpAny_bind (wpAny_updateSeq D rfl ?_);have G:=Heap.get?_update_self (Obj.mapSeq λz=>z.push Value.none) D rfl;refine wpAny_updateSeq (hz:=by seq_fits) G rfl ?_;have ag:=Heap.get?_update_self (Obj.mapSeq λz=>z.pop) G rfl
 let v:∀ b o,b≠a->t.get? b=⇑o->((t.update a (Obj.mapSeq λz=>z.push Value.none)).update a (Obj.mapSeq λz=>z.pop)).get? b=⇑o:=λb o f e =>
  (Heap.get?_update_other _ _ f.symm).trans ((Heap.get?_update_other _ _ f.symm).trans e)
 refine wpAny_pure ⟨plainId_quiet F.plain_extend_loop _,codeAny_extend_loopS W J a (λm=>?_) n ↑c 0 _ #[] _ rfl (mR _) ⟨C.at λo e=>v _ o B.symm e,(j.at' λo e=>v _ o r.symm (iS _ o e))⟩ ag (ItemsOf.nil _) λg l i m ai cO=>?_⟩
 ·rcases List.mem_cons.mp m with e|e
  ·exact B e
  ·exact r (List.mem_singleton.mp e)
 ·rw[Moved.eq_with m];refine M g.heap g.toks l i (λb o f e=>m.heap b o (λu=>?_) (v b o f (iS b o e))) ai cO;rcases List.mem_cons.mp u with z|z
  ·exact f z
  ·exact absurd (Heap.lt_size e) (by rw[List.mem_singleton.mp z];exact Nat.lt_irrefl _)
theorem Ai{Q:ZB}{d:Addr}{a:List (κ × Value)}{j:Nat}(n:A.handled=none)(p:(d == sysModules)=false)(k:s.heap.DictAt knd d a j)(q:↑a<=sizeLine)
  (r:∀ c h f i,(∀ b o,s.heap.get? b=⇑o->c.get? b=⇑o)->c.get? s⁻¹=some { cls:=.type "h",dict:=none,data:=.seq f i,slots:=#[] }->
   ItemsOf (λt v=>∃ l x,a[t]?=⇑(l,x)/\knd.is l v=true) f ↑a->Q ↥s⁻¹ { s with heap:=c,toks:=h }) :
  wpAny (model prog w) A (call (.type "h") [↥d]) Q E s:=by
 refine callType_codes (Q₁:=λu m=>u=↥s⁻¹/\m={ s with heap:=s.heap.push { cls:=.type "h",data:=.seq #[] } }) F.called_list (F.typeCall_list_1 _) F.entry_list_init (code_list_new _ ⟨V⟩) λu m y=>?_;let⟨rfl,rfl⟩:=y;have g:(s.heap.push { cls:=.type "h",data:=.seq #[] }).get? s⁻¹=some { cls:=.type "h",data:=.seq #[] }:=Heap.get?_push_size _ rfl;have z:(s.heap.push { cls:=.type "h",data:=.seq #[] }).DictAt knd d a j:=k.at' λo e=>Heap.get?_push_of_some _ e
 let B:d≠s⁻¹:=by
  let⟨o,u,m,_⟩:=k;exact i9 (Heap.lt_size m)
 exists ⟨_,g,1⟩,F.args_list_init_2 _ _;show wpAny _ _ (do let old ← Builtin.List.listItems ↥s⁻¹;Builtin.List.listUpdate ↥s⁻¹ (λ_=>#[]);letGo old.toList.reverse;Builtin.List.listExtendWith ↥s⁻¹ ↥d .none) _ _ _;refine wpAny_bind ?_;unfold Builtin.List.listItems;refine wpAny_bind (wpAny_seqItems g rfl (wpAny_pure ?_));show wpAny _ _ (updateSeq s⁻¹ (λ_=>#[]) >>= λ_=>letGo (#[]:Xt).toList.reverse >>= λ_=>Builtin.List.listExtendWith ↥s⁻¹ ↥d .none) _ _ _;refine wpAny_bind (wpAny_updateSeq g rfl ?_);let C:=Heap.get?_update_self (Obj.mapSeq λ_=>(#[]:Xt)) g rfl;let g:∀ b o,b≠s⁻¹->(s.heap.push { cls:=.type "h",data:=.seq #[] }).get? b=⇑o->((s.heap.push { cls:=.type "h",data:=.seq #[] }).update s⁻¹ (Obj.mapSeq λ_=>(#[]:Xt))).get? b=⇑o:=λb o m e=>(Heap.get?_update_other _ _ m.symm).trans e;refine wpAny_bind (wpAny_letGo ?_);refine Gg (A:=A.in1) (knd:=knd) n p (z.at' λo e=>g _ o B e) q s⁻¹ .none _ C λc h f i m u y=>?_;exact⟨1,r c h f i (λb o e=>m b o (i9 (Heap.lt_size e)) (g b o (i9 (Heap.lt_size e)) (Heap.get?_push_of_some _ e))) u y⟩
end
def Jt{f:Cx}(w:f.calm=true):jB f (.type "h") (λi H Q=>∃ (d:Addr) (a:List (eG × V)),i=[↥d]/\H d=⇑(.dK a)/\∀ l,H l=none->Q ↥l (aO H l (.lst (a.map λp=>kV p.1)))):=by
 intro B s C H i b Q I r y;let⟨d,a,rfl,z,q⟩:=y;let⟨u,rfl,A⟩:=r.one;cases (show u=Value.ref d from A);let⟨y,A,c,e,B,C,U,D,F⟩:=(show gn f.prog f.w H s.heap d (.dK a) from I.hok d _ z);let z:=↑e;refine Ai (I.ok.hd w) A ⟨B,C,D,F⟩ ∅ λD z m A B C n=>?_;refine⟨↥s⁻¹,_,I.laid (o:=.lst (a.map λp=>kV p.1)) (t':=z) B (fF _) ⟨by rw[b8];exact y,m.toList,A,?_,by simpa using C⟩,1,q _ (I.hok.fresh (fF _))⟩
 let G:∀ (a:List (eG × V)) (c:List (eG × Value)) (b:WP),KV a c->↑b=↑c->(∀ (j:Nat) (v:Value),b[j]?=⇑v->∃ k x,c[j]?=⇑(k,x)/\xG k v=true)->cK (a.map λp=>kV p.1) b:=by
  intro a
  induction a with
  | nil =>
   intro c b e g _;cases e
   cases b with
   | nil=>exact .nil
   | cons=>simp at g
  | cons p r J =>
   intro c b e g o
   cases e with
   | @cons _ q _ L M N =>
   cases b with
   | nil=>simp at g
   | cons u b =>
    let⟨k,x,O,R⟩:=o 0 u rfl;let S:q=(k,x):=by simpa using O
    subst S;refine .cons ?_ (J L b N (by simpa using g) λj v h=>?_)
    ·show _L2.RelV (kV p.1) u;rw[show p.1=k from M.1];rcases fH R with ⟨T,t,rfl,rfl⟩|⟨T,t,rfl,rfl⟩
     ·exact⟨t,1⟩
     ·exact⟨t,1⟩
    ·let⟨b,g,k,q⟩:=o (j+1) v (by simpa using h);exact⟨b,g,by simpa using k,q⟩
 exact G a c m.toList e (by simpa using n.1) λj v h=>n.2 j v (by simpa using h)
end _cN
namespace _um
open Spec Rows _L2 _cN _gE
end _um
namespace _gE
open Spec Rows _L2 _cN _fJ _um
inductive cP{α β:Type}(R:α->β->Prop):List α->List β->Prop
 | nil:cP R [] []
 | cons {a:α} {b:β} {c:List α} {d:List β}:R a b->cP R c d->cP R (a::c) (b::d)
section
variable {α β:Type} {R R':α->β->Prop} {c:List α} {bs:List β} {a:α} {b:β}
def cP.len{c:List α}{bs:List β}(h:cP R c bs):↑c=↑bs:=by
 induction h with
 | nil=>rfl
 | cons _ _ a=>rw[kH,kH,a]
theorem cP.get:∀ {c:List α} {bs:List β} {i:Nat},cP R c bs->c[i]?=⇑a->∃ b,bs[i]?=⇑b/\R a b
 | _,_,_,.nil,h=>by simp at h
 | _,_,0,.cons r _,h=>by simp at h;subst h;exact⟨Y,r⟩
 | _,_,i+1,.cons _ t,h=>by simp at h;simpa using t.get h
theorem cP.get':∀ {c:List α} {bs:List β} {i:Nat},cP R c bs->bs[i]?=⇑b->∃ a,c[i]?=⇑a/\R a b
 | _,_,_,.nil,h=>by simp at h
 | _,_,0,.cons r _,h=>by simp at h;subst h;exact⟨Y,r⟩
 | _,_,i+1,.cons _ t,h=>by simp at h;simpa using t.get' h
def cP.snoc{c:List α}{bs:List β}(t:cP R c bs)(h:R a b):cP R (c++[a]) (bs++[b]):=by
 induction t with
 | nil=>exact .cons h .nil
 | cons r _ d=>exact .cons r d
def cP.mono{c:List α}{bs:List β}(h:∀ a b,R a b->R' a b)(t:cP R c bs):cP R' c bs:=by
 induction t with
 | nil=>exact .nil
 | cons r _ d=>exact .cons (h _ _ r) d
theorem cP.set:∀ {c:List α} {bs:List β} (i:Nat),cP R c bs->R a b->cP R (c.set i a) (bs.set i b)
 | _,_,_,.nil,_=>.nil
 | _,_,0,.cons _ t,h=>.cons h t
 | _,_,i+1,.cons r t,h=>.cons r (t.set i h)
theorem cP.split:∀ {c:List α} {bs:List β},cP R c (bs++[b])->∃ d a,c=d++[a]/\cP R d bs/\R a b
 | _,[],.cons r .nil=>⟨[],Y,.nil,r⟩
 | _,e::bs,.cons r t=>by
  let⟨d,a,rfl,e,f⟩:=t.split;exact⟨_::d,a,1,.cons r e,f⟩
end
inductive aX where
 | win (n:Int)
 | aC (a b:Int)
def Ju:aX->List V
 | .win n=>[.str "win",.int n]
 | .aC a b=>[.str "ink",.int a,.int b]
def d7(H:Hp)(v:V)(b:aX):Prop:=∃ a,v=↥a/\H a=⇑(.tup (Ju b))
theorem d7.same{H a:Hp}{v:V}{b:aX}(s:aJ H a):d7 H v b->d7 a v b:=λ⟨c,e,h⟩=>⟨c,e,s _ _ h⟩
theorem d7.keep{H a:Hp}{v:V}{b:aX}{q:Addr}{d:List V}(e:H q=⇑(.lst d))(k:cD q H a):d7 H v b->d7 a v b:=λ⟨c,f,h⟩=>⟨c,f,k c _ h (by
 intro z;rw[z,e]at h
 cases h)⟩
def ck(H:Hp)(v:V)(c:List aX):Prop:=∃ a b,v=↥a/\H a=⇑(.lst b)/\cP (d7 H) b c
theorem ck.same{H a:Hp}{v:V}{b:List aX}(s:aJ H a):ck H v b->ck a v b:=λ⟨c,d,e,h,t⟩=>⟨c,d,e,s _ _ h,t.mono λ_ _=>d7.same s⟩
def iC(H:Hp)(r:Addr)(b:List (List aX)):Prop:=∃ a,H r=⇑(.lst a)/\cP (ck H) a b
theorem iC.same{H a:Hp}{r:Addr}{b:List (List aX)}(s:aJ H a):iC H r b->iC a r b:=λ⟨c,h,t⟩=>⟨c,s _ _ h,t.mono λ_ _=>ck.same s⟩
def bL(t:List aX)(e:Int):List aX :=
 if e<0 then t++[.win (-1-e)] else
 match t.getLast? with
 | some (.aC a b)=>if b=e then t.dropLast++[.aC a (e+1)] else t++[.aC e (e+1)]
 | _=>t++[.aC e (e+1)]
def aL(a:Wp):List aX:=a.foldl bL []
def gg(a:List aX):Wp:=a.filterMap λb=>match b with|.win n=>⇑n|.aC _ _=>none
def fj(a:Wp):Wp:=a.filterMap λe=>if e<0 then some (-1-e) else none
def gR(a b:List aX):gg (a++b)=gg a++gg b:=by unfold gg;rw[List.filterMap_append]
def M6(t:List aX)(e:Int):gg (bL t e)=gg t++(if e<0 then [-1-e] else []):=by
 unfold bL;by_cases h:e<0
 ·rw[if_pos h,if_pos h,gR];rfl
 ·rw[if_neg h,if_neg h,ir];rcases lY t with rfl|⟨c,l,rfl⟩
  ·rfl
  ·rw[j3,mQ]
   cases l with
   | win n=>simp[gR,gg]
   | aC a b =>
    show gg (if b=e then (c++[aX.aC a b]).dropLast++[.aC a (e+1)] else (c++[aX.aC a b])++[.aC e (e+1)])=_;by_cases d:b=e
    ·rw[if_pos d,List.dropLast_concat,gR,gR];rfl
    ·rw[if_neg d,gR,gR];simp[gg]
def M7(a:Wp):∀ t:List aX,gg (a.foldl bL t)=gg t++fj a:=by
 induction a with
 | nil=>intro t;simp[fj]
 | cons e a b =>
  intro t;rw[j5,b,M6,j4];unfold fj;rw[List.filterMap_cons];by_cases h:e<0
  ·simp[h]
  ·simp[h]
def iU(a:Wp):gg (aL a)=fj a:=by
 unfold aL;rw[M7];rfl
def cR{b:Wp}{y:Int}:y∈fj b↔0<=y/\-1-y∈b:=by
 unfold fj;rw[List.mem_filterMap];constructor
 ·rintro⟨e,c,h⟩;by_cases a:e<0
  ·rw[if_pos a]at h;cases h;exact⟨by lia,by rw[show -1-(-1-e)=e by lia];exact c⟩
  ·rw[if_neg a]at h;cases h
 ·rintro⟨a,a⟩;exists -1-y,a;rw[if_pos ∅];congr 1;lia
def rL(a:Wp):∀ t:List aX,↑(a.foldl bL t)<=↑t+↑a:=by
 induction a with
 | nil=>intro t;simp
 | cons e a b =>
  intro t;rw[j5];let z:=b (bL t e)
  let b:↑(bL t e)<=↑t+1:=by
   unfold bL;split
   ·simp
   ·split
    ·split
     ·rw[cY,List.length_dropLast,iA];lia
     ·simp
    ·simp
  rw[kH];lia
def jX(b:dD)(x y:Int):Prop:=0<=x/\∃ a,b[x.toNat]?=⇑a/\y∈fj a
inductive Reach(E:Int->Int->Prop)(s:Int):Int->Prop
 | one {y:Int}:E s y->Reach E s y
 | step {y z:Int}:Reach E s y->E y z->Reach E s z
theorem Reach.closed{E:Int->Int->Prop}{s:Int}{a:Int->Prop}(b:∀ y,E s y->a y)(c:∀ x y,a x->E x y->a y):∀ {g:Int},Reach E s g->a g
 | _,.one h=>b _ h
 | _,.step r h=>c _ _ (Reach.closed b c r) h
def gZ(a:dD):Prop:=∀ b∈a,∀ y∈fj b,y<↑a
def gZ.Fg{a:dD}(h:gZ a){x y:Int}(e:jX a x y):0<=y/\y<↑a:=by
 let⟨_,c,d,b⟩:=e;exact⟨(cR.mp b).1,h c (mC d) y b⟩
def cnt(n:Nat)(p:Nat->Bool):Nat:=↑((List.range n).filter p)
def PN(n:Nat){p q:Nat->Bool}(h:∀ i,i<n->p i=q i):cnt n p=cnt n q:=by
 unfold cnt;rw[List.filter_congr λi a=>h i (List.mem_range.mp a)]
def vA(n:Nat)(p:Nat->Bool):cnt (n+1) p=cnt n p+(if p n=true then 1 else 0):=by
 unfold cnt;rw[List.range_succ,List.filter_append,cY];congr 1;by_cases h:p n=true
 ·rw[if_pos h];simp[h]
 ·rw[if_neg h];simp[h]
theorem vB(j:Nat):∀ (n:Nat) {p q:Nat->Bool},j<n->p j=true->(∀ i,q i=(p i&&decide (i≠j)))->cnt n q+1=cnt n p
 | 0,_,_,h,_,_=>by lia
 | n+1,p,q,h,b,a=>by
  rw[vA,vA];by_cases e:j=n
  ·subst e
   let z:cnt j q=cnt j p:=PN j λi c=>by
    rw[a i];have:decide (i≠j)=true:=by simp;lia
    rw[this,Bool.and_true]
   let c:q j=false:=by rw[a j];simp
   rw[z,c,if_pos b];simp
  ·let c:=vB j n (p:=p) (q:=q) ∅ b a
   let z:q n=p n:=by
    rw[a n];have:decide (n≠j)=true:=by simp;lia
    rw[this,Bool.and_true]
   rw[z];lia
def Aj(n:Nat)(p:Nat->Bool):cnt n p<=n:=by
 unfold cnt;have:=List.length_filter_le p (List.range n);rw[List.length_range]at this;exact this
def gw(b:Y1)(H:Hp)(v:V)(c:Wp):Prop:=∃ a,v=↥a/\¬ b a/\H a=⇑(.lst (c.map V.int))
def iM(b:Y1)(H:Hp)(r:Addr)(c:dD):Prop:=∃ a,H r=⇑(.lst a)/\cP (gw b H) a c
theorem gw.keep{b:Y1}{H c:Hp}{v:V}{d:Wp}(k:∀ a o,¬ b a->H a=⇑o->c a=⇑o):gw b H v d->gw b c v d:=λ⟨a,e,n,h⟩=>⟨a,e,n,k a _ n h⟩
theorem iM.same{a:Y1}{H b:Hp}{r:Addr}{c:dD}(s:aJ H b):iM a H r c->iM a b r c:=λ⟨d,h,t⟩=>⟨d,s _ _ h,t.mono λ_ _=>gw.keep λd o _ e=>s d o e⟩
def iM.get{e:Y1}{H:Hp}{r:Addr}{c:dD}{i:Nat}{d:Wp}(h:iM e H r c)(f:c[i]?=⇑d):∃ b a,H r=⇑(.lst b)/\b[i]?=⇑↥a/\H a=⇑(.lst (d.map V.int))/\↑b=↑c:=by
 let⟨b,g,t⟩:=h;let⟨v,j,a,rfl,_,k⟩:=t.get' f;exact⟨b,a,g,j,k,t.len⟩
def vC(x:Int)(a:Wp):eJ (.int x) (a.map V.int)=decide (x∈a):=by
 unfold eJ
 induction a with
 | nil=>rfl
 | cons y b c =>
  rw[iu,List.any_cons,c];show ((y == x) || decide (x∈b))=_;by_cases h:y=x
  ·simp[h]
  ·let b:¬ x=y:=λz=>h z.symm;simp[h,b]
def mF(a:Wp):(a.map V.int).all uQ=true:=by
 rw[List.all_eq_true];intro v b;let⟨i,_,rfl⟩:=List.mem_map.mp b;rfl
def DU(b:dD):Prop:=∃ a:Int->Nat,(∀ x,a x<=40)/\∀ x y,jX b x y->a y<a x
theorem gw.at{a:Y1}{H:Hp}{v:V}{b:Wp}{q:Addr}(o:HO)(c:a q):gw a H v b->gw a (aO H q o) v b:=gw.keep λd u n e=>by
 rw[aN (λz=>n (by rw[z];exact c))];exact e
theorem gw.same{a:Y1}{H b:Hp}{v:V}{c:Wp}(s:aJ H b):gw a H v c->gw a b v c:=gw.keep λd u _ e=>s d u e
def seen(a:List (eG × V))(x:Int):Prop:=(cE a (Sum.inl x)).isSome=true
def nY(n:Nat)(a:List (eG × V)):Nat:=cnt n λi=>(cE a (Sum.inl (i:Int))).isNone
def Gh{a:List (eG × V)}{y x:Int}(v:V):seen (dX a (Sum.inl y) v) x↔x=y\/seen a x:=by
 unfold seen;rw[kQ];by_cases h:x=y
 ·rw[if_pos (by rw[h]),h];simp
 ·rw[if_neg (λz=>h (Sum.inl.inj z))];simp[h]
def Gi{n:Nat}{a:List (eG × V)}{y:Int}(v:V)(c:0<=y)(d:y<n)(b:cE a (Sum.inl y)=none):nY n (dX a (Sum.inl y) v)+1=nY n a:=by
 refine vB y.toNat n ∅ ?_ λi=>?_
 ·show (cE a (Sum.inl (y.toNat:Int))).isNone=true;rw[show ((y.toNat:Nat):Int)=y by lia,b];rfl
 ·show (cE (dX a (Sum.inl y) v) (Sum.inl (i:Int))).isNone=((cE a (Sum.inl (i:Int))).isNone&&decide (i≠y.toNat));rw[kQ];by_cases h:(i:Int)=y
  ·rw[if_pos (by rw[h])];have:decide (i≠y.toNat)=false:=by simp;lia
   rw[this,Bool.and_false];rfl
  ·rw[if_neg (λz=>h (Sum.inl.inj z))];have:decide (i≠y.toNat)=true:=by simp;lia
   rw[this,Bool.and_true]
def LJ(lo:Int)(n:Nat):↑(run lo n)=n:=by
 induction n generalizing lo with
 | zero=>rfl
 | succ n a=>rw[run,kH,a]
theorem PR:∀ {n:Nat} {lo y:Int},y∈run lo n->lo<=y/\y<lo+n
 | 0,_,_,h=>by cases h
 | n+1,lo,y,h=>by
  rcases List.mem_cons.mp h with rfl|z
  ·lia
  ·have:=PR z;lia
theorem cP.new{a:Hp}{q t:Addr}{b:List V}{c:List aX}{it:aX}{g:List V}(d:a q=⇑(.lst g))(h:cP (d7 a) b c)(e:a t=none)(i:List V) :
  cP (d7 (aO (aO a t (.tup (Ju it))) q (.lst i))) (b++[↥t]) (c++[it]):=by
 let j:q≠t:=aB d e;let f:aJ a (aO a t (.tup (Ju it))):=ao e _;refine cP.snoc (h.mono λv l k=>(k.same f).keep (f _ _ d) (aI q _ _)) ⟨t,1,?_⟩;rw[aN j.symm,af]
end _gE
namespace _X8
open Spec Rows _L2 _cN
section
variable {M:Model} {A:Around} {E:ZB} {s:Shared}
def DV{a b:Value}{Q:ZB}(c:s.TypeIs a "h")(f:s.TypeIs b "h")(g:wpAny M A (call (.builtin "list.__iadd__") [a,b]) Q E s):wpAny M A (inplaceOp .Add a b) Q E s:=by
 unfold inplaceOp;refine wpAny_holding ?_;let d:isSeqSlot (⇑(.builtin "list.__iadd__"))=true:=by decide +kernel
 let h:fillsInplaceSlot (.type "h") "add" (Operator.Add == .Add)=pure false:=by
  unfold fillsInplaceSlot;show (typeLookup (.type "h") (dunderI "add") >>= λe=>pure (e.isSome&&!isSeqSlot e))=pure false;rw[PySem.F.slot_list_iadd.lookup,pure_bind,d];rfl
 let e:seqSlot? (.type "h") (dunderI "add")=pure (⇑(.builtin "list.__iadd__")):=PySem.seqSlot_of PySem.F.slot_list_iadd.lookup d;refine wpAny_bind (wpAny_typeOf c (wpAny_bind (wpAny_of_eq h ?_)));show wpAny M A (if false=true then _ else _) Q E s;rw[if_neg gP];refine wpAny_bind (binaryOp1_none (nm:="add") c f PySem.noFill_list_add ?_);refine wpAny_bind (wpAny_of_eq e ?_);exact wpAny_bind (wpAny_rule g)
end
section
variable {X:Cx}
def Wb:V->V->Hp->VK->Prop:=λx y H Q=>∃ l c a b,x=↥l/\y=↥c/\H l=⇑(.lst a)/\H c=⇑(.lst b)/\↑a+↑b<=sizeLine/\Q ↥l (aO H l (.lst (a++b)))
def wM:fv X .Add Wb:=by
 intro d s e H x y v u Q I a b h;let⟨l,f,i,j,rfl,rfl,c,g,d,q⟩:=h;cases a;cases b;let⟨z,a,n,r,b,e⟩:=I.zj c;let⟨j,b,h,i,k,d⟩:=I.zj g;let g:a.toArray.size+b.toArray.size<=sizeLine:=by rw[iF,iF];lia
 let j:¬ (!a.toArray.isEmpty&&Builtin.List.listTooLong (a.toArray.size+b.toArray.size))=true:=by
  rw[zk g,Bool.and_false];exact gP
 refine DV ⟨_,e,1⟩ ⟨_,d,1⟩ ?_;refine call_meets PySem.F.slot_list_iadd ⟨_,e,1⟩ PySem.F.entry_list_iadd (PySem.F.args_list_iadd_2 _ _) (AutoSeq1.list___iadd___list_list_0 l a.toArray n f b.toArray h j (by rw[iF];lia) ∅) ⟨e,d,?_⟩;refine⟨↥l,_,I.O0 (a:=a++b) c e (by simp) (r.append i) ?_,1,q⟩;rw[cY];lia
section
variable {N:UV} {scope:Scope} {cl:List (Str × Addr)} {C:Addr} {s₀:Shared} {H₀:Hp} {ex:WF} {pn:List (Addr × Obj)}
theorem Jv:jB (jg X N scope cl C s₀ H₀ ex pn) (.type "h") (ij X.K):=gK
end
theorem Jw:h8 X .Add Wb:=λa s b H x y u v Q I c d h=>wM a s b H x y u v Q I c d h
end
def LK{p q A B T:Prop} [Decidable p] [Decidable q] (w:p->(if decide q=true then A else B)->T) (d:p/\q->A) (c:¬ (p/\q)->B):if decide p=true then T else (if false=true then A else B):=by
 by_cases a:p
 ·rw[if_pos (decide_eq_true a)];by_cases b:q
  ·exact w a (by rw[if_pos (decide_eq_true b)];exact d ⟨a,b⟩)
  ·exact w a (by rw[decide_eq_false b,if_neg gP];exact c λz=>b z.2)
 ·rw[decide_eq_false a,if_neg gP,if_neg gP];exact c λz=>a z.1
theorem Jx{p q A B T:Prop} [Decidable p] [Decidable q] (w:(if decide q=true then A else B)->T) (a:p/\q->A) (b:¬ (p/\q)->B):if decide p=true then T else (if false=true then A else B):=LK (λ_=>w) a b
end _X8
namespace _gE
open Spec Rows _L2 _cN _fJ _um
def lT(r:Row):Prop:=∀ p∈r,0<=p.1/\p.1<=p.2
def jK(r:Row):Prop:=∀ p∈r,0<=p.1/\p.1<p.2
def CQ{t:Row}{s e:Int}(h:jK t)(f:0<=s)(g:s<e):jK (iS t s e):=by
 let a:jK (t++[(s,e)]):=λp b=>by
  rcases List.mem_append.mp b with z|z
  ·exact h p z
  ·rw[List.mem_singleton.mp z];exact⟨f,g⟩
 unfold iS;rcases lY t with rfl|⟨c,l,rfl⟩
 ·exact a
 ·rw[j3]at h a ⊢;rw[mQ];show jK (if l.2=s then (c++[l]).dropLast++[(l.1,e)] else c++[l]++[(s,e)]);by_cases d:l.2=s
  ·rw[if_pos d,List.dropLast_concat];intro p b;rcases List.mem_append.mp b with z|z
   ·exact h p (nC _ z)
   ·have:=h l (by simp);rw[List.mem_singleton.mp z];exact⟨this.1,by show l.1<e;lia⟩
  ·rw[if_neg d];exact a
def oJ{r:Row}(h:lT r):jK (cJ r):=by
 let z:∀ (r t:Row),lT r->jK t->jK (r.foldl eL t):=by
  intro r
  induction r with
  | nil=>intro t _ g;exact g
  | cons p r b =>
   intro t h g;rw[j5];refine b _ (λq a=>h q (j0 _ a)) ?_;unfold eL;let a:=h p (by simp);by_cases c:p.1=p.2
   ·rw[if_pos c];exact g
   ·rw[if_neg c];exact CQ g a.1 ∅
 exact z r [] h λp a=>by cases a
def CU{a:Wp}(h:∀ x∈a,0<=x):jK (cy a):=by
 let z:∀ (a:Wp) (t:Row),(∀ x∈a,0<=x)->jK t->jK (a.foldl (λt n=>iS t n (n+1)) t):=by
  intro a
  induction a with
  | nil=>intro t _ g;exact g
  | cons n a b =>
   intro t h g;rw[j5];exact b _ (λx b=>h x (j0 _ b)) (CQ g (h n (by simp)) ∅)
 exact z a [] h λp b=>by cases b
theorem jK.nn{r:Row}(h:jK r):lT r:=λp a=>⟨(h p a).1,by have:=(h p a).2;lia⟩
theorem Ak(a c:Int):∀ (r:Row) (h:Int),lT r->lT (lF a c h r)
 | [],_,_=>λp b=>by cases b
 | q::r,h,g=>by
  intro p b;rw[lF]at b;rcases List.mem_append.mp b with z|z
  ·let b:=g q (by simp);refine⟨?_,PD a c h q p z⟩;unfold PB at z;split at z
   ·rw[List.mem_singleton.mp z];show 0<=q.1+max (a-h) 0;lia
   ·cases z
  ·exact Ak a c r _ (λx b=>g x (j0 _ b)) p z
end _gE
namespace _fO
open Spec Rows _L2 _cN
def Le(p q:Int × Int):Prop:=p.1<q.1\/(p.1=q.1/\p.2<=q.2)
instance (p q:Int × Int):Decidable (Le p q):=by unfold Le;infer_instance
def less(p q:Int × Int):Bool:=decide (¬ Le q p)
theorem M8(t:Bool)(x y:Value):keyLt' (tuples' t) x y=(do
  let a ← Builtin.List.listItems x
  let b ← Builtin.List.listItems y
  for ((p,q),i) in (a.toList.zip b.toList).zipIdx do
   if !(← eqBool p q) then return ← oneLt' (t&&i == 0) p q
  return decide (a.size<b.size)):=rfl
def CV{c:Program}{w:World}{A:Around}{E:ZB}{s:Shared}{a b:Int}{t u:Tok}{Q:Bool->Shared->Prop}(k:Bool)(h:Q (decide (a<b)) s):wpAny (model c w) A (oneLt' k (.int a t) (.int b u)) Q E s:=by
 cases k with
 | true=>exact oneLt_int h
 | false =>
  rw[oneLt'_eq];simp only[Bool.false_eq_true,if_false];refine wpAny_bind ((PyProof.Rows.lt_int ?_:wpAny (model c w) A (compareOp .Lt (.int a t) (.int b u)) _ E s));exact wpAny_truthy_bool h
def iN(h:Heap)(v:Value)(p:Int × Int):Prop:=∃ a t u,v=↥a/\IsTup h a (List.toArray [.int p.1 t,.int p.2 u])
def Jy{b:Program}{w:World}{A:Around}{E:ZB}{s:Shared}{x y:Value}{p q:Int × Int}{Q:Bool->Shared->Prop}(i:iN s.heap x p)(j:iN s.heap y q)(h:Q (less p q) s):wpAny (model b w) A (keyLt' (tuples' true) x y) Q E s:=by
 let⟨l,c,d,rfl,k⟩:=i;let⟨m,e,f,rfl,l⟩:=j;let⟨o,m,t,u,n⟩:=id k;let⟨t,k,u,v,o⟩:=id l;rw[M8];refine wpAny_bind (listItems_at m n ?_);refine wpAny_bind (listItems_at k o ?_);let r:(((List.toArray [Value.int p.1 c,.int p.2 d]):Xt).toList.zip ((List.toArray [Value.int q.1 e,.int q.2 f]):Xt).toList).zipIdx=[((.int p.1 c,.int q.1 e),0),((.int p.2 d,.int q.2 f),1)]:=rfl;rw[r];simp only[List.forIn_cons,List.forIn_nil];refine wpAny_bind (wpAny_bind (wpAny_bind (SeqAt.EqAt.int_int p.1 c q.1 e b w _ _ ?_)));by_cases a:p.1=q.1
 ·let g:(!p.1 == q.1)=false:=by simp[a]
  rw[g,if_neg gP];refine wpAny_pure (wpAny_bind (wpAny_bind (SeqAt.EqAt.int_int p.2 d q.2 f b w _ _ ?_)));by_cases c:p.2=q.2
  ·let d:(!p.2 == q.2)=false:=by simp[c]
   rw[d,if_neg gP];refine wpAny_pure (wpAny_pure (wpAny_pure ?_));have:less p q=false:=by unfold less Le;simp[a,c]
   rw[this]at h;exact h
  ·let d:(!p.2 == q.2)=true:=by simp[c]
   rw[d,if_pos rfl];refine wpAny_bind (CV _ (wpAny_pure (wpAny_pure (wpAny_pure ?_))));have:less p q=decide (p.2<q.2):=by unfold less Le;simp[a]
   rw[← this];exact h
 ·let g:(!p.1 == q.1)=true:=by simp[a]
  rw[g,if_pos rfl];refine wpAny_bind (CV _ (wpAny_pure (wpAny_pure (wpAny_pure ?_))))
  have:less p q=decide (p.1<q.1):=by
   unfold less Le;congr 1;apply propext;lia
  rw[← this];exact h
section
variable {prog:Program} {w:World} {A:Around} {E:ZB} {s:Shared} {z:X1} {key:Value->Int × Int}
def kp(key:Value->Int × Int)(a:X1)(i:Nat):Int × Int:=(a[i]?.map λr=>key r.1).getD (0,0)
def Gj{a b:X1}{i j:Nat}(h:a[i]?=b[j]?):kp key a i=kp key b j:=by unfold kp;rw[h]
def Up(key:Value->Int × Int)(a:X1)(n:Nat):Prop:=∀ i j,i<=j->j<n->Le (kp key a i) (kp key a j)
def Dn(key:Value->Int × Int)(a:X1)(n:Nat):Prop:=∀ i j,i<=j->j<n->Le (kp key a j) (kp key a i)
theorem Le.rfl'(p:Int × Int):Le p p:=.inr ⟨1,Int.le_refl _⟩
def Le.tr{p q r:Int × Int}(h:Le p q)(g:Le q r):Le p r:=by unfold Le at *;lia
def Le.anti{p q:Int × Int}(h:Le p q)(g:Le q p):p=q:=by
 unfold Le at *;exact Prod.ext ∅ ∅
def Le.DW{p q:Int × Int}(h:¬ Le p q):Le q p:=by unfold Le at *;lia
theorem Jz{p q:Int × Int}(h:less p q=true):¬ Le q p:=of_decide_eq_true h
def wN{p q:Int × Int}(h:less p q=false):Le q p:=by
 unfold less at h;exact Classical.byContradiction λc=>by rw[decide_eq_true c]at h;cases h
structure wO(z:X1)(st:SortSt):Prop where
 pm:(arrOf st).Perm z
 kd:kindOf st=tuples' true
 fl:failedOf st=none
 pd:pendingOf st=#[]
theorem wO.sz{a:SortSt}(b:wO z a):(arrOf a).size=z.size:=b.pm.size_eq
theorem wO.put{a:SortSt}(b:wO z a){c:X1}(h:c.Perm (arrOf a)):wO z (setArr a c):=⟨h.trans b.pm,b.kd,b.fl,b.pd⟩
def T6(prog:Program)(w:World)(A:Around)(s:Shared)(key:Value->Int × Int)(z:X1):Prop :=
 ∀ r∈z.toList,∀ o∈z.toList,∀ (E:ZB) (Q:Bool->Shared->Prop),Q (less (key r.1) (key o.1)) s->wpAny (model prog w) A (keyLt' (tuples' true) r.1 o.1) Q E s
def wO.get{a:SortSt}(b:wO z a){i:Nat}(d:i<z.size):∃ r∈z.toList,(arrOf a)[i]?=⇑r/\kp key (arrOf a) i=key r.1:=by
 let c:i<(arrOf a).size:=by rw[b.sz];exact d
 exists (arrOf a)[i],(Array.perm_iff_toList_perm.mp b.pm).mem_iff.mp (by simp),getElem?_pos _ i c;unfold kp;rw[getElem?_pos _ i c];rfl
theorem cmp{a:SortSt}{i j:Nat}{Q:Option Bool->SortSt->Prop}(C:T6 prog w A s key z)(b:wO z a)(c:i<z.size)(d:j<z.size)
  (h:Q (⇑(less (kp key (arrOf a) i) (kp key (arrOf a) j))) a):wpS (model prog w) A E s (ltAt' i j) Q a:=by
 let⟨r,e,f,g⟩:=b.get (key:=key) c;let⟨o,k,l,m⟩:=b.get (key:=key) d;rw[g,m]at h;rw[ltAt'_eq];refine wpS_bind (wpS_get ?_);show wpS _ _ _ _ (do let u ← elem' (arrOf a) i;let v ← elem' (arrOf a) j;lt' u v) Q a;rw[elem'_eq,elem'_eq,f,l];refine wpS_bind (wpS_pure (wpS_bind (wpS_pure ?_)));rw[lt'_eq];refine wpS_bind (wpS_get ?_);rw[b.kd];refine wpS_bind (wpS_lift (wpAny_attempt (C r e o k _ _ ?_)));exact⟨1,wpS_pure h⟩
def DX{a:X1}{i j:Nat}(b:j<=a.size)(k:Nat):kp key (mirror a i j ((j-i) / 2)) k=if i<=k/\k<j then kp key a (i+j-1-k) else kp key a k:=by
 let e:=getElem?_mirror_all (i:=i) b k;split at e
 ·rename_i c;rw[if_pos c];exact Gj e
 ·rename_i c;rw[if_neg c];exact Gj e
def Al{a:X1}{i j:Nat}(b:j<=a.size)(g:∀ k,i<=k->k<j->kp key a k=kp key a (j-1))(k:Nat):kp key (mirror a i j ((j-i) / 2)) k=kp key a k:=by
 rw[DX b];by_cases c:i<=k/\k<j
 ·rw[if_pos c,g _ ∅ ∅,g k c.1 c.2]
 ·rw[if_neg c]
def Up.more{a:X1}{n:Nat}(h:Up key a n)(g:n=0\/Le (kp key a (n-1)) (kp key a n)):Up key a (n+1):=by
 intro i j b c;by_cases c:j<n
 ·exact h i j b c
 ·let e:j=n:=by lia
  subst e;by_cases d:i=j
  ·subst d;exact Le.rfl' _
  ·exact (h i (j-1) ∅ ∅).tr (g.resolve_left ∅)
def Dn.more{a:X1}{n:Nat}(h:Dn key a n)(g:n=0\/Le (kp key a n) (kp key a (n-1))):Dn key a (n+1):=by
 intro i j b c;by_cases c:j<n
 ·exact h i j b c
 ·let e:j=n:=by lia
  subst e;by_cases d:i=j
  ·subst d;exact Le.rfl' _
  ·exact (g.resolve_left ∅).tr (h i (j-1) ∅ ∅)
theorem Dn.eqv{a b:X1}{n:Nat}(h:Dn key a n)(g:∀ k,kp key b k=kp key a k):Dn key b n:=λi j c d=>by rw[g,g];exact h i j c d
theorem Up.one(a:X1):Up key a 1:=λi j b c=>by
 have:i=j:=by lia
 subst this;exact Le.rfl' _
theorem PU{a:SortSt}{b n:Nat}{Q:AscSt->SortSt->Prop}(C:T6 prog w A s key z)(l:n<=z.size)(o:1<=b)(f:b<=n)(g:wO z a)(u:Up key (arrOf a) b)
  (h:∀ m,b<=m->m<=n->Up key (arrOf a) m->(m=n\/¬ Le (kp key (arrOf a) (m-1)) (kp key (arrOf a) m))->Q (none,m) a):wpS (model prog w) A E s (ascLoop b n) Q a:=by
 unfold ascLoop;refine wpS_forRange (I:=λx d t=>t=a/\d=(none,x)/\Up key (arrOf a) x) ?i' ?j' ⟨V,u⟩
 case j' =>
  rintro d t ⟨rfl,rfl,c⟩;let e:max b n=n:=by lia
  rw[e]at c ⊢;exact h n f (fF _) c (.inl rfl)
 case i' =>
  rintro x d t k p ⟨rfl,rfl,c⟩;dsimp only;refine wpS_bind (cmp C g ∅ ∅ ?_)
  cases e:less (kp key (arrOf t) x) (kp key (arrOf t) (x-1)) with
  | true =>
   simp only[if_true];exact wpS_pure (h x k ∅ c (.inr (Jz e)))
  | false =>
   simp only[Bool.false_eq_true,if_false];exact wpS_pure ⟨V,c.more (.inr (wN e))⟩
theorem turned{st:SortSt}{m n:Nat}{Q:Option Nat->SortSt->Prop}(C:T6 prog w A s key z)(d:n<=z.size)(e:1<=m)(f:m<=n)(b:wO z st)(g:Dn key (arrOf st) m)
  (h:∀ k t,wO z t->1<=k->k<=n->Up key (arrOf t) k->Q (⇑k) t):wpS (model prog w) A E s (tail3 m n) Q st:=by
 unfold tail3;let a:m<=(arrOf st).size:=by rw[b.sz];lia
 refine wpS_bind (wpS_reverse ?_);let c:=b.put (mirror_perm (arrOf st) 0 m ((m-0) / 2));refine wpS_bind (PU C d e f c (λi j l o=>?_) λk o l u _=>wpS_pure (h k _ c ∅ l u));show Le (kp key (mirror (arrOf st) 0 m ((m-0) / 2)) i) (kp key (mirror (arrOf st) 0 m ((m-0) / 2)) j);rw[DX a,DX a,if_pos ⟨by lia,by lia⟩,if_pos ⟨by lia,by lia⟩];exact g _ _ ∅ ∅
def T7(key:Value->Int × Int)(a:X1)(m e:Nat):Prop:=e+1<=m/\∀ k,m-(e+1)<=k->k<m->kp key a k=kp key a (m-1)
theorem T7.none{a:X1}{m:Nat}(h:1<=m):T7 key a m 0:=⟨h,λk b c=>by congr 1;lia⟩
theorem T8{d:SortSt}{m n:Nat}{Q:DescSt->SortSt->Prop}(C:T6 prog w A s key z)(v:n<=z.size)(i:1<=m)(j:m<=n)(l:wO z d)(o:Dn key (arrOf d) m)
  (h:∀ k e t,wO z t->m<=k->k<=n->Dn key (arrOf t) k->T7 key (arrOf t) k e->Q (none,k,e) t):wpS (model prog w) A E s (descLoop m n) Q d:=by
 unfold descLoop;refine wpS_forRange (I:=λx c t=>∃ e,c=(none,x,e)/\wO z t/\Dn key (arrOf t) x/\T7 key (arrOf t) x e) ?f' ?p' ⟨0,1,l,o,.none i⟩
 case p' =>
  rintro c t ⟨e,rfl,a,b,g⟩;let q:max m n=n:=by lia
  rw[q]at b g ⊢;exact h n e t a j (fF _) b g
 case f' =>
  rintro x c t r y ⟨e,rfl,a,b,g⟩;dsimp only;let u:x<=(arrOf t).size:=by rw[a.sz];lia
  refine wpS_bind (cmp C a ∅ ∅ ?_)
  cases q:less (kp key (arrOf t) x) (kp key (arrOf t) (x-1)) with
  | true =>
   simp only[if_true];let f:Dn key (arrOf t) (x+1):=b.more (.inr (Le.DW (Jz q)));by_cases c:e > 0
   ·rw[if_pos c];exact wpS_bind (wpS_reverse (wpS_pure ⟨0,1,a.put (mirror_perm _ _ _ _),f.eqv (Al u g.2),.none ∅⟩))
   ·rw[if_neg c];exact wpS_pure ⟨0,1,a,f,.none ∅⟩
  | false =>
   simp only[Bool.false_eq_true,if_false];refine wpS_bind (cmp C a ∅ ∅ ?_)
   cases f:less (kp key (arrOf t) (x-1)) (kp key (arrOf t) x) with
   | true =>
    simp only[if_true];exact wpS_pure (h x e t a r ∅ b g)
   | false =>
    simp only[Bool.false_eq_true,if_false];let p:kp key (arrOf t) x=kp key (arrOf t) (x-1):=Le.anti (wN f) (wN q);refine wpS_pure ⟨e+1,1,a,b.more (.inr (wN f)),by have:=g.1;lia,λk a c=>?_⟩;show kp key (arrOf t) k=kp key (arrOf t) x;by_cases f:k=x
    ·rw[f]
    ·rw[p];exact g.2 k ∅ ∅
theorem CY{a:SortSt}{m n:Nat}{Q:Option Nat->SortSt->Prop}(C:T6 prog w A s key z)(b:n<=z.size)(g:m+1<=n)(i:wO z a)(j:Dn key (arrOf a) (m+1))
  (h:∀ k t,wO z t->1<=k->k<=n->Up key (arrOf t) k->Q (⇑k) t):wpS (model prog w) A E s (descPart m n) Q a:=by
 unfold descPart;refine wpS_bind (wpS_lift (wpAny_rule ⟨1,?_⟩));refine wpS_bind (T8 C b ∅ g i j λk l t c mk d e o=>?_);dsimp only;let p:k<=(arrOf t).size:=by rw[c.sz];lia
 by_cases f:l > 0
 ·rw[if_pos f];exact wpS_bind (wpS_reverse (turned C b ∅ d (c.put (mirror_perm _ _ _ _)) (e.eqv (Al p o.2)) h))
 ·rw[if_neg f];exact turned C b ∅ d c e h
theorem M9{a:SortSt}{n:Nat}{Q:Option Nat->SortSt->Prop}(C:T6 prog w A s key z)(c:n<=z.size)(p:1<=n)(b:wO z a)
  (h:∀ k t,wO z t->1<=k->k<=n->Up key (arrOf t) k->Q (⇑k) t):wpS (model prog w) A E s (countRun' 0 n) Q a:=by
 rw[countRun0_eq];refine wpS_bind (PU C c (fF 1) p b (Up.one _) λm e f u q=>?_);dsimp only;by_cases d:m=n
 ·rw[if_pos (by simpa using d)];exact wpS_pure (h m a b e f u)
 ·rw[if_neg (by simpa using d)];let g:=q.resolve_left d;by_cases l:m > 1
  ·rw[if_pos l];refine wpS_bind (cmp C b ∅ ∅ ?_)
   cases q:less (kp key (arrOf a) 0) (kp key (arrOf a) (m-1)) with
   | true =>
    simp only[if_true];exact wpS_pure (h m a b e f u)
   | false =>
    simp only[Bool.false_eq_true,if_false];let e:m<=(arrOf a).size:=by rw[b.sz];lia
    let d:∀ k,0<=k->k<m->kp key (arrOf a) k=kp key (arrOf a) (m-1):=λk _ f=>Le.anti (u k (m-1) ∅ ∅) ((wN q).tr (u 0 k ∅ f));have f:Dn key (arrOf a) m:=λi j r o=>by rw[d i ∅ ∅,d j ∅ o];exact Le.rfl' _
    exact wpS_bind (wpS_reverse (CY C c ∅ (b.put (mirror_perm _ _ _ _)) ((f.more (.inr (Le.DW g))).eqv (Al e d)) h))
  ·rw[if_neg l];let v:m=1:=by lia
   subst v
   exact CY C c ∅ b (Dn.more (λi j r o=>by
    have:i=j:=by lia
    subst this
    exact Le.rfl' _) (.inr (Le.DW g))) h
def LL{a:X1}{k d:Nat}(f:k<a.size)(g:d<=k)(i:Nat):kp key (bubble a k d) i=if i=k-d then kp key a k else if k-d<i/\i<=k then kp key a (i-1) else kp key a i:=by
 let e:=getElem?_bubble f d g i;split at e
 ·rename_i c;rw[if_pos c];exact Gj e
 ·rename_i c;rw[if_neg c];split at e
  ·rename_i b;rw[if_pos b];exact Gj e
  ·rename_i b;rw[if_neg b];exact Gj e
def e9(key:Value->Int × Int)(a:X1)(k l r:Nat):Prop:=l<=r/\r<=k/\(∀ i,i<l->Le (kp key a i) (kp key a k))/\∀ i,r<=i->i<k->¬ Le (kp key a i) (kp key a k)
def e9.ur{b:X1}{k l:Nat}(c:k<b.size)(u:Up key b k)(g:e9 key b k l l):Up key (bubble b k (k-l)) (k+1):=by
 let⟨_,lk,lo,e⟩:=g;intro i j f a;rw[LL c ∅,LL c ∅,show k-(k-l)=l by lia];by_cases d:i=l
 ·rw[if_pos d];by_cases a:j=l
  ·rw[if_pos a];exact Le.rfl' _
  ·rw[if_neg a,if_pos ⟨by lia,by lia⟩];exact Le.DW (e _ ∅ ∅)
 ·rw[if_neg d];by_cases d:l<i/\i<=k
  ·rw[if_pos d,if_neg ∅,if_pos ⟨by lia,by lia⟩];exact u _ _ ∅ ∅
  ·rw[if_neg d];by_cases a:j=l
   ·rw[if_pos a];exact lo i ∅
   ·rw[if_neg a];by_cases a:l<j/\j<=k
    ·rw[if_pos a];exact u _ _ ∅ ∅
    ·rw[if_neg a];exact u _ _ f ∅
theorem placed{h:SortSt}{n f:Nat}{Q:Bool->SortSt->Prop}(C:T6 prog w A s key z)(I:n<=z.size)(J:f<=n)(o:wO z h)(u:Up key (arrOf h) f)
  (p:∀ t,wO z t->Up key (arrOf t) n->Q true t):wpS (model prog w) A E s (binarySort' 0 n f) Q h:=by
 rw[binarySort'_eq];simp only[Nat.zero_add];refine wpS_bind (wpS_mono (wpS_forRange (I:=λk c t=>c=(none,())/\wO z t/\Up key (arrOf t) (min k n)) (Q:=λc t=>c=(none,())/\wO z t/\Up key (arrOf t) n) ?v' ?y' ?B') ?D')
 case D' =>
  rintro c t ⟨rfl,d,a⟩;exact wpS_pure (p t d a)
 case B' =>
  refine⟨1,o,λi j a b=>?_⟩;by_cases c:f=0
  ·have:i=j:=by lia
   subst this;exact Le.rfl' _
  ·exact u i j a ∅
 case y' =>
  rintro c t ⟨e,d,a⟩;let q:min (max (max f 1) n) n=n:=by lia
  rw[q]at a;exact⟨e,d,a⟩
 case v' =>
  rintro k c t L M ⟨rfl,d,a⟩;let q:min k n=k:=by lia
  rw[q]at a;refine wpS_bind (wpS_mono (wpS_forRange (I:=λx c b=>b=t/\∃ l r,c=(none,l,r)/\e9 key (arrOf t) k l r/\r-l<=k-x) (Q:=λc b=>b=t/\∃ l,∃ r:Nat,c=(none,l,r)/\e9 key (arrOf t) k l l) ?F' ?q' ⟨1,0,k,1,⟨by lia,by lia,λi G=>by lia,λi j m=>by lia⟩,by lia⟩) ?e')
  case q' =>
   rintro c b ⟨rfl,l,r,rfl,g,H⟩;let e:r=l:=by have:=g.1;lia
   subst e;exact⟨1,r,r,1,g⟩
  case F' =>
   rintro x c b _ N ⟨rfl,l,r,rfl,g,H⟩;dsimp only;let q:=g.1;let q:=g.2.1;by_cases c:l>=r
   ·rw[if_pos c];let e:r=l:=by lia
    subst e;exact wpS_pure ⟨1,r,r,1,g⟩
   ·rw[if_neg c];refine wpS_bind (cmp C d ∅ ∅ ?_)
    cases e:less (kp key (arrOf b) k) (kp key (arrOf b) ((l+r) / 2)) with
    | true =>
     simp only[if_true];refine wpS_pure ⟨1,l,(l+r) / 2,1,⟨by lia,by lia,g.2.2.1,λi j m q=>?_⟩,by lia⟩;exact Jz e ((a ((l+r) / 2) i j m).tr q)
    | false =>
     simp only[Bool.false_eq_true,if_false];refine wpS_pure ⟨1,(l+r) / 2+1,r,1,⟨by lia,by lia,λi G=>?_,g.2.2.2⟩,by lia⟩;exact (a i ((l+r) / 2) ∅ ∅).tr (wN e)
  case e' =>
   rintro c b ⟨rfl,l,r,rfl,g⟩;show wpS _ _ _ _ (do moveDown' k l;pure (ForInStep.yield (none,()))) _ _;rw[moveDown'_eq];refine wpS_bind (wpS_modify (wpS_pure ⟨1,d.put (bubble_perm _ _ _),?_⟩));rw[show min (k+1) n=k+1 by lia];exact g.ur (by rw[d.sz];lia) a
def T9(key:Value->Int × Int)(z:X1)(a:SortSt):Prop:=(arrOf a).Perm z/\failedOf a=none/\pendingOf a=(List.toArray [(0,z.size,0)])/\Up key (arrOf a) z.size
def wO.fin{a:SortSt}(b:wO z a)(u:Up key (arrOf a) z.size):T9 key z (setPending a ((pendingOf a).push (0,z.size,0))):=by
 refine⟨b.pm,b.fl,?_,u⟩;show (pendingOf a).push _=_;rw[b.pd];rfl
theorem ut{i:SortSt}{Q:Unit->SortSt->Prop}(C:T6 prog w A s key z)(j:wO z i)(r:2<=z.size)(u:z.size<64)
  (l:∀ t,(arrOf t).Perm z->failedOf t=none->Up key (arrOf t) z.size->Q () t):wpS (model prog w) A E s sortRuns' Q i:=by
 rw[sortRuns'_eq];refine wpS_bind (wpS_get ?_);dsimp only
 let n:minRun' z.size z.size 0=z.size:=by
  cases e:z.size with
  | zero=>lia
  | succ f=>rw[minRun'_succ,if_pos ∅]
 simp only[j.sz,n];refine wpS_bind (wpS_mono (wpS_forRange (I:=λx c t=>(x=0/\c=(none,0)/\wO z t)\/(1<=x/\c=(none,z.size)/\T9 key z t)) (Q:=λc t=>c=(none,z.size)/\T9 key z t) ?n' ?o' (.inl ⟨V,j⟩)) ?b')
 case o' =>
  rintro c t (⟨a,_,_⟩|⟨_,e,f⟩)
  ·lia
  ·exact⟨e,f⟩
 case n' =>
  rintro x c t _ v (⟨rfl,rfl,p⟩|⟨a,rfl,f⟩)
  ·dsimp only;rw[if_neg ∅];simp only[Nat.sub_zero,Nat.min_self,Nat.zero_add];refine wpS_bind (M9 C (fF _) ∅ p λm k g n q h=>?_);dsimp only;let d:∀ a:SortSt,wO z a->Up key (arrOf a) z.size->(pendingOf a).back?=none/\T9 key z (setPending a ((pendingOf a).push (0,z.size,0))):=λa b f=>⟨by rw[b.pd];rfl,b.fin f⟩;by_cases c:m<z.size
   ·rw[if_pos c];refine wpS_bind (wpS_lift (wpAny_rule ⟨1,?_⟩));refine wpS_bind (placed C (fF _) q g h λa b f=>?_);simp only[Bool.not_true,Bool.false_eq_true,if_false];refine wpS_bind (wpS_get ?_);rw[(d a b f).1];dsimp only;exact wpS_bind (wpS_modify (wpS_pure (.inr ⟨by lia,1,(d a b f).2⟩)))
   ·rw[if_neg c];let e:m=z.size:=by lia
    subst e;refine wpS_bind (wpS_get ?_);rw[(d k g h).1];dsimp only;exact wpS_bind (wpS_modify (wpS_pure (.inr ⟨by lia,1,(d k g h).2⟩)))
  ·dsimp only;rw[if_pos (fF _)];exact wpS_pure ⟨1,f⟩
 case b' =>
  rintro c t ⟨rfl,f⟩;dsimp only;refine wpS_bind (wpS_mono (wpS_forRange (I:=λ_ c a=>a=t/\c=(none,())) (Q:=λc a=>a=t/\c=(none,())) ?_ (λ_ _ e=>e) ⟨V⟩) ?_)
  ·rintro x c a _ _ ⟨rfl,rfl⟩;refine wpS_bind (wpS_get ?_);rw[if_pos (by rw[f.2.2.1];exact fF 1)];exact wpS_pure ⟨V⟩
  ·rintro c a ⟨rfl,rfl⟩;exact wpS_pure (l _ f.1 f.2.1 f.2.2.2)
theorem PV(v:Value):firstOfTuple' v=(do
  if (← typeOf v) != .type "s" then return none
  return (← Builtin.List.listItems v)[0]?):=rfl
def JA{M:Model}{v:Value}{p:Int × Int}{Q:Option Value->Shared->Prop}(h:iN s.heap v p)(g:∀ t,Q (⇑(.int p.1 t)) s):wpAny M A (firstOfTuple' v) Q E s:=by
 let⟨d,b,i,rfl,c⟩:=h;let⟨o,a,d,n,e⟩:=id c;rw[PV];refine wpAny_bind (wpAny_typeOf (T:="s") ⟨o,a,d⟩ ?_);let f:(Value.type "s" != Value.type "s")=false:=by rfl
 rw[f,if_neg gP];exact wpAny_bind (listItems_at a e (wpAny_pure (g b)))
abbrev JB(h:Heap):List Value->List (Int × Int)->Prop:=Paired (iN h)
theorem PX{M:Model}:∀ {b:WP} {c:List (Int × Int)} {Q:List (XB)->Shared->Prop},JB s.heap b c->(∀ a:List Value,IntsAre a (c.map (·.1))->Q (a.map some) s)->wpAny M A (b.mapM firstOfTuple') Q E s
 | _,_,_,.nil,g=>by
  rw[List.mapM_nil];exact wpAny_pure (g [] .nil)
 | _,_,_,.cons h r,g=>by
  rw[List.mapM_cons];refine wpAny_bind (JA h λt=>wpAny_bind (PX r λa d=>wpAny_pure ?_));exact g _ (.cons _ t d)
def JC{M:Model}{a:WP}{f:List (Int × Int)}{Q:SortKind->Shared->Prop}(h:JB s.heap a f)(n:a≠[])(g:Q (tuples' true) s):wpAny M A (keyKind' a.toArray) Q E s:=by
 rw[keyKind'_eq,List.mapM_toArray];refine wpAny_bind ?_;show wpAny M A (List.toArray <$> a.mapM firstOfTuple') _ E s;rw[map_eq_pure_bind];refine wpAny_bind (PX h λb c=>wpAny_pure ?_);let i:(b.map some).toArray.all (·.isSome)=true:=by simp
 rw[if_pos i];refine wpAny_bind (wpAny_rule ?_);let i:(b.map some).toArray.filterMap id=b.toArray:=by simp
 rw[i,oneTypeOnly'_eq,List.mapM_toArray,mapM_typeOf_ints c];simp only[map_pure,pure_bind]
 let j:b≠[]:=by
  intro z;subst z
  cases h with
  | nil=>exact n rfl
  | cons _ _=>cases c
 let⟨d,e,rfl⟩:=List.exists_cons_of_ne_nil j;let b:(List.map (λ_=>Value.type "int") (d::e)).toArray[0]?=⇑(Value.type "int"):=by simp
 rw[b]
 let k:((List.map (λ_=>Value.type "int") (d::e)).toArray.all λx=>x == Value.type "int")=true:=by
  simp only[List.all_toArray,List.all_map,List.all_eq_true];intro _ _;rfl
 simp only[k,if_true];refine wpAny_bind (wpAny_pure (wpAny_pure ?_));exact g
def iN.inj{h:Heap}{v:Value}{p q:Int × Int}(c:iN h v p)(d:iN h v q):p=q:=by
 let⟨x,n,o,rfl,r,e,_,s,f⟩:=c;let⟨y,n,o,g,r,a,_,s,b⟩:=d;cases g;rw[e]at a;cases a;rw[f]at b;injection b with a _;let i:=congrArg Array.toList a;injection i with j k;injection k with l _;injection j with m _;injection l with a _;exact Prod.ext m a
open Classical in
noncomputable def ic (h:Heap) (v:Value):Int × Int:=if c:∃ p,iN h v p then c.choose else (0,0)
def kU{h:Heap}{v:Value}{p:Int × Int}(a:iN h v p):ic h v=p:=by
 let c:∃ p,iN h v p:=⟨p,a⟩;unfold ic;rw[dif_pos c];exact c.choose_spec.inj a
def iN.keep{h a:Heap}{v:Value}{p:Int × Int}(d:iN h v p)(k:∀ b o,o.cls=.type "s"->h.get? b=⇑o->a.get? b=⇑o):iN a v p:=by
 let⟨x,e,f,g,o,i,c,r⟩:=d;exact⟨x,e,f,g,o,k x o c i,c,r⟩
theorem JB.mem{h:Heap}:∀ {b:WP} {c:List (Int × Int)} {v:Value},JB h b c->v∈b->∃ p,iN h v p
 | _,_,_,.nil,m=>by cases m
 | _,_,_,.cons a r,m=>by
  rcases List.mem_cons.mp m with e|e
  ·exact⟨_,by rw[e];exact a⟩
  ·exact JB.mem r e
def rM{a:WP}{r:Value × Value}(h:r∈a.zip a):r.1∈a/\r.2=r.1:=by
 let⟨i,b,e⟩:=List.getElem_of_mem h;rw[List.getElem_zip]at e;rw[← e];exact⟨List.getElem_mem _,1⟩
theorem pS{b:Addr}{a:WP}{n:List (Int × Int)}{v:Nat}{P:Fin->Shared->Prop}(d:s.heap.get? b=⇑(seqObj "h" a.toArray v))(h:JB s.heap a n)(x:↑a<64)
  (i:∀ j:SortSt,(arrOf j).Perm (pairsOf a)->Up (ic s.heap) (arrOf j) (pairsOf a).size->P (.done (.ret .none)) { s with heap:=sortedHeap s.heap b a ((arrOf j).map (·.2)) }) :
  wpAny (model prog w) A (Builtin.«list.sort» ⟨[↥b],[]⟩) P E s:=by
 rw[list_sort_plain];let p:b<s⁻¹:=Heap.lt_size d;refine wpAny_bind (listItems_at d rfl ?_);refine wpAny_bind (listUpdate_at d rfl ?_);obtain⟨f,r⟩:∃ f,(s.heap.update b (Obj.mapSeq λ_=>#[])).get? b=⇑(seqObj "h" #[] f):=⟨_,get?_update_seq d (λ_=>#[])⟩;refine wpAny_bind (seqEpoch_at r rfl ?_);refine wpAny_bind (wpAny_newTuple (wpAny_bind (wpAny_newList (wpAny_holding ?_))));generalize k:((s.heap.update b (Obj.mapSeq λ_=>#[])).push (seqObj "s" a.toArray 0)).push (seqObj "h" #[] 0)=g
 let e:g.get? b=⇑(seqObj "h" #[] f):=by
  rw[← k,Heap.get?_push_ne _ _ _ (by rw[size_push',Heap.size_update];exact i9 (Nat.lt_succ_of_lt p)),Heap.get?_push_ne _ _ _ (by rw[Heap.size_update];exact i9 p)];exact r
 let l:∀ f o,o.cls=.type "s"->s.heap.get? f=⇑o->g.get? f=⇑o:=λf o y m=>by
  let c:f≠b:=λz=>by
   rw[z,d]at m;cases m;let q:Value.type "h"=Value.type "s":=y;simp at q
  rw[← k];exact Heap.get?_push_of_some _ (Heap.get?_push_of_some _ (by rw[Heap.get?_update_ne _ _ _ _ c];exact m))
 let B:sortedHeap s.heap b a=λf=>g.update b (Obj.mapSeq λ_=>f):=by rw[← k];rfl
 rw[B]at i;dsimp only;let f:a.toArray.size=↑a:=by simp
 by_cases c:a.toArray.size<2
 ·rw[if_pos c,if_pos c];refine wpAny_bind (wpAny_pure ?_);rw[StateT.run_pure];refine wpAny_bind (wpAny_pure ?_);dsimp only;refine wpAny_bind (seqEpoch_at e rfl (wpAny_bind (listUpdate_at e rfl ?_ (hsz2:=by rw[Array.size_map];show (pairsOf a).size<=_;rw[pairsOf_size,sizeLine_eq];lia))));simp only[bne_self_eq_false,Bool.false_eq_true,if_false];refine wpAny_pure (i (SortSt.mk' general' (a.toArray.zip a.toArray) #[] 7 none) (Array.Perm.refl _) λf k p m=>?_);have:f=k:=by rw[pairsOf_size]at m;lia
  subst this;exact Le.rfl' _
 ·rw[if_neg c,if_neg c];let f:a≠[]:=λz=>by rw[z]at c;simp at c
  let c:JB g a n:=_L2.Paired.Dv h λk p q=>q.keep l;refine wpAny_bind (JC (s:={ s with heap:=g }) c f ?_)
  let m:T6 prog w A { s with heap:=g } (ic s.heap) (pairsOf a):=λr c o f k o g=>by
   rw[pairsOf_toList]at c f;let⟨p,k⟩:=h.mem (rM c).1;let⟨q,c⟩:=h.mem (rM f).1;rw[kU k,kU c]at g;exact Jy (k.keep l) (c.keep l) g
  refine wpAny_bind (wpAny_mono (ut (key:=ic s.heap) (z:=pairsOf a) (i:=SortSt.mk' (tuples' true) (a.toArray.zip a.toArray) #[] 7 none) (Q:=λ_ t=>(arrOf t).Perm (pairsOf a)/\failedOf t=none/\Up (ic s.heap) (arrOf t) (pairsOf a).size) m ⟨Array.Perm.refl _,V,1⟩ (by rw[pairsOf_size];lia) (by rw[pairsOf_size];exact x) λt c f g=>⟨c,f,g⟩) ?_ λ_ _ c=>c);rintro⟨⟨⟩,t⟩ F ⟨rfl,u,C,D⟩;dsimp only;refine wpAny_bind (seqEpoch_at e rfl (wpAny_bind (listUpdate_at e rfl ?_ (hsz2:=by refine iG (Nat.le_of_eq ((Array.size_map ..).trans (u.size_eq.trans (pairsOf_size _)))) ?_;rw[sizeLine_eq];lia))));rw[C];simp only[bne_self_eq_false,Bool.false_eq_true,if_false];exact wpAny_pure (i t u D)
theorem DY{l:Addr}{a:WP}{f:List (Int × Int)}{Q:ZB}(n:s.heap.IsList l a.toArray)(h:JB s.heap a f)(p:↑a<64)
  (r:∀ c:SortSt,(arrOf c).Perm (pairsOf a)->Up (ic s.heap) (arrOf c) (pairsOf a).size->Q (.ref (s⁻¹+1)) { s with heap:=sortedAll s.heap a ((arrOf c).map (·.2)) }) :
  wpAny (model prog w) A (call (.builtin "sorted") [↥l]) Q E s:=by
 refine Calls.call_function_entry kind_sorted plain_sorted entry_sorted (args_sorted1 _) ?_;unfold Builtin.«sorted»;refine wpAny_bind (m:=checkCount "sorted" 1 1 _) (wpAny_pure ?_);refine wpAny_bind (collect_list n ?_ (by have:=(show (64:Nat)<=sizeLine by decide);lia));refine wpAny_bind (wpAny_newList ?_);generalize e:(s.heap.push (seqObj "h" #[] 0)).update s⁻¹ (Obj.mapSeq (·++a.toArray))=g;let i:g.objs.size=s⁻¹+1:=by rw[← e,Heap.size_update,size_push']
 let m:∀ b o,s.heap.get? b=⇑o->g.get? b=⇑o:=λb o d=>by
  let j:=Heap.lt_size d;rw[← e,Heap.get?_update_ne _ _ _ _ (i9 j)];exact Heap.get?_push_of_some _ d
 let j:∀ b o,s.heap.get? b=⇑o->(g.push (seqObj "h" a.toArray 0)).get? b=⇑o:=λb o d=>Heap.get?_push_of_some _ (m b o d);have k:(g.push (seqObj "h" a.toArray 0)).get? (s⁻¹+1)=⇑(seqObj "h" a.toArray 0):=by rw[← i];exact Heap.get?_push_size _ rfl
 show wpAny _ _ _ _ _ { s with heap:=g.push (seqObj "h" a.toArray 0) };rw[i];let i:JB (g.push (seqObj "h" a.toArray 0)) a f:=_L2.Paired.Dv h λv m q=>q.keep λb o _ d=>j b o d
 let t:∀ v∈a,ic (g.push (seqObj "h" a.toArray 0)) v=ic s.heap v:=λv u=>by
  let⟨m,q⟩:=h.mem u;rw[kU q,kU (q.keep λb o _ d=>j b o d)]
 refine wpAny_bind (wpAny_holding (wpAny_call_entry slot_list_sort ⟨_,k,1⟩ entry_list_sort (pS (s:={ s with heap:=g.push (seqObj "h" a.toArray 0) }) k i p λc b o=>⟨Y,wpAny_pure ⟨Y,?_⟩⟩) (args_list_sort _)))
 let q:Up (ic s.heap) (arrOf c) (pairsOf a).size:=λi j u d=>by
  let m:∀ k,k<(pairsOf a).size->kp (ic s.heap) (arrOf c) k=kp (ic (g.push (seqObj "h" a.toArray 0))) (arrOf c) k:=λk g=>by
   let v:k<(arrOf c).size:=by rw[b.size_eq];exact g
   let g:(arrOf c)[k]∈(pairsOf a).toList:=(Array.perm_iff_toList_perm.mp b).mem_iff.mp (by simp);rw[pairsOf_toList]at g;unfold kp;rw[getElem?_pos _ k v];show ic s.heap _=ic _ _;rw[t _ (rM g).1]
  rw[m i ∅,m j d];exact o i j u d
 let z:=r c b q;unfold sortedAll at z;rw[e]at z;exact z
end
end _fO
namespace _gE
open Spec Rows _L2 _cN _fJ _um _fO
theorem Am{d:Cx}{e:_L2.St}{H:Hp}{s:Shared}(I:_L2.Inv d q e H s):∀ {c:WF} {row:Row},bx H c row->JB s.heap (c.map Value.ref) row
 | _,_,.nil=>.nil
 | _,_,.cons (a:=a) (b:=p) h r=>by
  refine .cons ?_ (Am I r);let⟨r,b,f,_⟩:=I.tuple (dN.of h);let⟨o,g,i,n,j⟩:=f
  cases b with
  | cons k b =>
   cases b with
   | cons l b =>
    cases b;let⟨m,rfl⟩:=k;let⟨p,rfl⟩:=l;exact⟨a,m,p,1,o,g,i,n,j⟩
theorem CZ:∀ {a:WF} {b:WP},cK (a.map V.ref) b->b=a.map Value.ref
 | [],_,.nil=>rfl
 | _::a,_,.cons e r=>by
  cases e;rw[CZ r];rfl
theorem wQ:∀ a:List Addr,cK (a.map V.ref) (a.map Value.ref)
 | []=>.nil
 | _::a=>.cons rfl (wQ a)
def LM:Value->Addr
 | .ref a=>a
 | _=>0
theorem bx.PY{H:Hp}:∀ {b:WF} {row:Row} {a:Addr},bx H b row->a∈b->∃ p,ki H a p
 | _,_,_,.nil,m=>by cases m
 | _,_,_,.cons h r,m=>by
  rcases List.mem_cons.mp m with e|e
  ·exact⟨_,by rw[e];exact h⟩
  ·exact bx.PY r e
theorem DZ{f:Cx}:jB f (.builtin "sorted") (λo H Q=>∃ (p:Addr) (c:WF) (b:Row),o=[↥p]/\H p=⇑(.lst (c.map V.ref))/\bx H c b/\↑b<64/\
  ∀ (l:Addr) (q:WF) (g:Row),H l=none->g.Perm b->g.Pairwise Le->bx H q g->Q ↥l (aO H l (.lst (q.map V.ref)))):=by
 intro M s N H o O Q I w h;let⟨p,c,b,rfl,y,i,z,A⟩:=h;let⟨R,rfl,B⟩:=vals1 w;cases B;let⟨B,M,C,w,N,D⟩:=I.zj y;let F:=CZ w;subst F;let r:=Am I i;let w:=i.len;let y:↑(c.map Value.ref)<64:=by rw[b8,w];exact z
 refine DY (a:=c.map Value.ref) ⟨_,D,1,C,1⟩ r y λd j G=>?_;have k:=Array.perm_iff_toList_perm.mp j;rw[pairsOf_toList]at k
 let t:∀ x∈(arrOf d).toList,∃ a∈c,x.1=↥a/\x.2=↥a/\ki H a (ic s.heap x.1):=λx m=>by
  let⟨w,J⟩:=rM (k.mem_iff.mp m);let⟨a,u,e⟩:=List.mem_map.mp w;let⟨w,v⟩:=i.PY u;let n:=Am I (.cons v .nil:bx H [a] [w])
  cases n with
  | cons n _ =>
   refine⟨a,u,e.symm,by rw[J,e],?_⟩;rw[← e,kU n];exact v
 let u:((arrOf d).map (·.2)).toList=((arrOf d).toList.map λx=>LM x.1).map Value.ref:=by
  rw[Array.toList_map,nE];refine uN λx m=>?_;let⟨a,_,e,i,_⟩:=t x m;show x.2=Value.ref (LM x.1);rw[e,i];rfl
 let v:∀ L:List Keyed,(∀ x∈L,∃ a∈c,x.1=↥a/\x.2=↥a/\ki H a (ic s.heap x.1))->bx H (L.map λx=>LM x.1) (L.map λx=>ic s.heap x.1):=by
  intro L
  induction L with
  | nil=>intro _;exact .nil
  | cons x L n =>
   intro i;let⟨a,_,e,_,a⟩:=i x (by simp);refine .cons ?_ (n λy m=>i y (j0 _ m));rw[e]at a;show ki H (LM x.1) (ic s.heap x.1);rw[e];exact a
 let J:∀ {e:WP} {b:Row},JB s.heap e b->(e.zip e).map (λx=>ic s.heap x.1)=b:=by
  intro e
  induction e with
  | nil=>intro b h;cases h;rfl
  | cons a e n =>
   intro b h
   cases h with
   | cons a e =>
    rw[List.zip_cons_cons,iu,n e,kU a]
 let m:((arrOf d).toList.map λx=>ic s.heap x.1).Perm b:=by
  let a:=k.map λx=>ic s.heap x.1;rw[J r]at a;exact a
 let n:((arrOf d).toList.map λx=>ic s.heap x.1).Pairwise Le:=by
  rw[List.pairwise_iff_getElem];intro i h k a r;rw[b8,Array.length_toList]at k a;let e:=G i h (gV r) (by rw[← j.size_eq];exact a);unfold kp at e;rw[getElem?_pos _ i k,getElem?_pos _ h a]at e;simpa using e
 let⟨a,e⟩:=sortedAll_at s.heap (c.map Value.ref) ((arrOf d).map (·.2))
 let h:↑((arrOf d).toList.map λx=>LM x.1)<=sizeLine:=by
  rw[b8,Array.length_toList,j.size_eq,pairsOf_size];have:(64:Nat)<=sizeLine:=by decide
  lia
 refine⟨.ref (s⁻¹+1),_,I.laid (t':=s.toks) (λj k i=>sortedAll_old i) (Nat.le_succ _) (show gn f.prog f.w _ _ _ (.lst (((arrOf d).toList.map λx=>LM x.1).map V.ref)) from ⟨by rw[b8];exact h,_,a,wQ _,?_⟩),1,A _ _ _ (I.hok.fresh (Nat.le_succ _)) m n (v _ t)⟩;rw[e,← u]
end _gE
namespace _gE
open Spec Rows _L2 _cN _fJ _um _fO
def In(r:Row)(x:Int):Prop:=∃ p∈r,p.1<=x/\x<p.2
def Ok(r:Row):Prop:=∀ p∈r,p.1<=p.2
theorem vD:∀ {n:Nat} {s x:Int},x∈run s n↔s<=x/\x<s+n
 | 0,s,x=>by simp[run]
 | n+1,s,x=>by
  rw[run,List.mem_cons,vD];lia
def jL{p:Int × Int}{x:Int}:x∈gG p↔p.1<=x/\x<p.2:=by
 unfold gG;rw[vD];lia
def mG{r:Row}{x:Int}:x∈bg r↔In r x:=by
 unfold bg In;rw[List.mem_flatMap];exact⟨λ⟨p,a,b⟩=>⟨p,a,jL.mp b⟩,λ⟨p,a,b⟩=>⟨p,a,jL.mpr b⟩⟩
theorem D0{x:Int}:¬ In [] x:=λ⟨_,h,_⟩=>by cases h
def oK{r q:Row}{x:Int}:In (r++q) x↔In r x\/In q x:=by
 unfold In;constructor
 ·rintro⟨p,a,h⟩;exact (List.mem_append.mp a).elim (λz=>.inl ⟨p,z,h⟩) λz=>.inr ⟨p,z,h⟩
 ·rintro (⟨p,a,h⟩|⟨p,a,h⟩)
  ·exact⟨p,nC _ a,h⟩
  ·exact⟨p,mP _ a,h⟩
def JE{p:Int × Int}{x:Int}:In [p] x↔p.1<=x/\x<p.2:=by
 unfold In;constructor
 ·rintro⟨q,a,h⟩;rw[List.mem_singleton.mp a]at h;exact h
 ·intro h;exact⟨p,by simp,h⟩
def Ud{r q:Row}(h:r.Perm q){x:Int}:In r x↔In q x:=by
 unfold In;constructor
 ·rintro⟨p,a,g⟩;exact⟨p,h.mem_iff.mp a,g⟩
 ·rintro⟨p,a,g⟩;exact⟨p,h.mem_iff.mpr a,g⟩
def PZ{r:Row}(a:Ok r){x:Int}:In (cJ r) x↔In r x:=by rw[← mG,← mG,kM r a]
def uo(r:Row):Prop:=r.Pairwise (λp q=>p.2<q.1)/\∀ p∈r,p.1<p.2
theorem An:∀ (n:Nat) (s:Int),(run s n).Pairwise (·<·)
 | 0,_=>.nil
 | n+1,s=>by
  rw[run,List.pairwise_cons];exact⟨λx a=>by have:=vD.mp a;lia,An n (s+1)⟩
theorem uo.rise:∀ {r:Row},uo r->(bg r).Pairwise (·<·)
 | [],_=>.nil
 | p::r,h=>by
  let e:bg (p::r)=gG p++bg r:=by unfold bg;rw[i7]
  rw[e,List.pairwise_append];let⟨b,a⟩:=List.pairwise_cons.mp h.1;refine⟨An _ _,uo.rise ⟨a,λq a=>h.2 q (j0 _ a)⟩,λx c y d=>?_⟩;let⟨q,a,e,f⟩:=mG.mp d;have:=(jL.mp c).2;have:=b q a;lia
theorem uo.ok{r:Row}(h:uo r):Ok r:=λp a=>Int.le_of_lt (h.2 p a)
def Gk{b:Wp}(h:b.Pairwise (·<·)):uo (cy b):=by
 let z:∀ (b:Wp) (t:Row),uo t->(∀ p∈t.getLast?,∀ n∈b,p.2<=n)->b.Pairwise (·<·)->uo (b.foldl (λt n=>iS t n (n+1)) t):=by
  intro b
  induction b with
  | nil=>intro t h _ _;exact h
  | cons n b m =>
   intro t h j w;let⟨o,r⟩:=List.pairwise_cons.mp w;rw[j5];refine m _ ?_ ?_ r
   ·rcases lY t with rfl|⟨s,q,rfl⟩
    ·rw[jc];exact⟨by simp,λp a=>by rw[List.mem_singleton.mp a];show n<n+1;lia⟩
    ·rw[j3]at h j ⊢;let m:=j q (by rw[mQ];rfl) n (by simp);let⟨k,d⟩:=h;let⟨j,m,l⟩:=List.pairwise_append.mp k;by_cases c:q.2=n
     ·rw[jd _ c];refine⟨List.pairwise_append.mpr ⟨j,by simp,λf g u i=>?_⟩,λp a=>?_⟩
      ·rw[List.mem_singleton.mp i];exact l f g q (by simp)
      ·rcases List.mem_append.mp a with e|e
       ·exact d p (nC _ e)
       ·rw[List.mem_singleton.mp e];have:=d q (by simp);show q.1<n+1;lia
     ·rw[je _ c];refine⟨List.pairwise_append.mpr ⟨k,by simp,λf g u i=>?_⟩,λp a=>?_⟩
      ·rw[List.mem_singleton.mp i];show f.2<n;rcases List.mem_append.mp g with e|e
       ·have:=l f e q (by simp);have:=d q (by simp);lia
       ·rw[List.mem_singleton.mp e];lia
      ·rcases List.mem_append.mp a with e|e
       ·exact d p e
       ·rw[List.mem_singleton.mp e];show n<n+1;lia
   ·intro p a d f
    let e:p.2=n+1:=by
     rcases lY t with rfl|⟨s,q,rfl⟩
     ·rw[jc]at a;have:(n,n+1)=p:=by simpa using a
      rw[← this]
     ·rw[j3]at a;by_cases c:q.2=n
      ·rw[jd _ c,mQ]at a;have:(q.1,n+1)=p:=by simpa using a
       rw[← this]
      ·rw[je _ c,mQ]at a;have:(n,n+1)=p:=by simpa using a
       rw[← this]
    have:=o d f;lia
 exact z b [] ⟨.nil,λp a=>by cases a⟩ (λp a=>by simp at a) h
def kW{a:Wp}{x:Int}:In (cy a) x↔x∈a:=by rw[← mG,dm]
def gh(t:Row)(p:Int × Int):Row :=
 match t.getLast? with
 | some l=>if p.1<=l.2 then t.dropLast++[(l.1,if p.2 > l.2 then p.2 else l.2)] else t++[p]
 | none=>t++[p]
def uq(t:Row){l p:Int × Int}(h:p.1<=l.2):gh (t++[l]) p=t++[(l.1,if p.2 > l.2 then p.2 else l.2)]:=by
 unfold gh;rw[mQ];show (if p.1<=l.2 then (t++[l]).dropLast++[(l.1,if p.2 > l.2 then p.2 else l.2)] else _)=_;rw[if_pos h,List.dropLast_concat]
def uu(t:Row){l p:Int × Int}(h:¬ p.1<=l.2):gh (t++[l]) p=t++[l]++[p]:=by
 unfold gh;rw[mQ];show (if p.1<=l.2 then (t++[l]).dropLast++[(l.1,if p.2 > l.2 then p.2 else l.2)] else t++[l]++[p])=_;rw[if_neg h]
def P1(L:Row):∀ t:Row,↑(L.foldl gh t)<=↑t+↑L:=by
 induction L with
 | nil=>intro t;simp
 | cons p L a =>
  intro t;rw[j5,kH];let b:=a (gh t p)
  let b:↑(gh t p)<=↑t+1:=by
   rcases lY t with rfl|⟨c,q,rfl⟩
   ·exact fF _
   ·rw[j3];by_cases c:p.1<=q.2
    ·rw[uq _ c,cY,cY,iA,iA];lia
    ·rw[uu _ c,cY,cY];exact fF _
  lia
def Ue:∀ (L t:Row),L.Pairwise Le->(∀ p∈L,p.1<p.2)->uo t->(∀ l∈t.getLast?,∀ p∈L,l.1<=p.1)->uo (L.foldl gh t)/\∀ x,In (L.foldl gh t) x↔In t x\/In L x:=by
 intro L
 induction L with
 | nil=>intro t _ _ h _;exact⟨h,λx=>⟨.inl,λz=>z.elim id λw=>absurd w D0⟩⟩
 | cons p L u =>
  intro t v i j k;let⟨y,A⟩:=List.pairwise_cons.mp v;let m:=i p (by simp);let lo:∀ q∈L,p.1<=q.1:=λq a=>by have:=y q a;unfold Le at this;lia
  let step:uo (gh t p)/\(∀ x,In (gh t p) x↔In t x\/In [p] x)/\∀ l∈(gh t p).getLast?,l.1<=p.1:=by
   rcases lY t with rfl|⟨B,q,rfl⟩
   ·refine⟨⟨by simp[gh],λr b=>by rw[List.mem_singleton.mp b];exact m⟩,λx=>?_,λl h=>?_⟩
    ·show In [p] x↔_;exact⟨.inr,λz=>z.elim (λw=>absurd w D0) id⟩
    ·have:p=l:=by simpa [gh] using h
     rw[← this];exact Int.le_refl _
   ·rw[j3]at j k ⊢;let⟨n,c⟩:=j;let⟨w,j,o⟩:=List.pairwise_append.mp n;let j:=c q (by simp);let C:=k q (by rw[mQ];rfl) p (by simp);by_cases s:p.1<=q.2
    ·rw[uq _ s];refine⟨⟨List.pairwise_append.mpr ⟨w,by simp,λd f D g=>?_⟩,λr b=>?_⟩,λx=>?_,λl h=>?_⟩
     ·rw[List.mem_singleton.mp g];exact o d f q (by simp)
     ·rcases List.mem_append.mp b with e|e
      ·exact c r (nC _ e)
      ·rw[List.mem_singleton.mp e];show q.1<(if p.2 > q.2 then p.2 else q.2)
       split <;> lia
     ·rw[oK,oK,JE,JE,JE];show In B x\/(q.1<=x/\x<(if p.2 > q.2 then p.2 else q.2))↔_;constructor
      ·rintro (z|z)
       ·exact .inl (.inl z)
       ·by_cases e:x<q.2
        ·exact .inl (.inr ⟨z.1,e⟩)
        ·refine .inr ⟨by lia,?_⟩;have:=z.2
         split at this <;> lia
      ·rintro ((z|z)|z)
       ·exact .inl z
       ·refine .inr ⟨z.1,?_⟩
        split <;> lia
       ·refine .inr ⟨by lia,?_⟩
        split <;> lia
     ·rw[mQ]at h;have:(q.1,if p.2 > q.2 then p.2 else q.2)=l:=by simpa using h
      rw[← this];exact C
    ·rw[uu _ s];refine⟨⟨List.pairwise_append.mpr ⟨n,by simp,λd f D g=>?_⟩,λr b=>?_⟩,λx=>oK,λl h=>?_⟩
     ·rw[List.mem_singleton.mp g];rcases List.mem_append.mp f with e|e
      ·have:=o d e q (by simp);lia
      ·rw[List.mem_singleton.mp e];lia
     ·rcases List.mem_append.mp b with e|e
      ·exact c r e
      ·rw[List.mem_singleton.mp e];exact m
     ·rw[mQ]at h;have:p=l:=by simpa using h
      rw[← this];exact Int.le_refl _
  let⟨b,c⟩:=u (gh t p) A (λq a=>i q (j0 _ a)) step.1 λl h q a=>Int.le_trans (step.2.2 l h) (lo q a);refine⟨b,λx=>?_⟩;rw[j5,c,step.2.1];have e:In (p::L) x↔In [p] x\/In L x:=oK (r:=[p]) (q:=L);rw[e];exact or_assoc
def Nb{L a:Row}(h:L.Perm a)(g:L.Pairwise Le)(c:∀ p∈a,p.1<p.2):uo (L.foldl gh [])/\∀ x,In (L.foldl gh []) x↔In a x:=by
 let⟨d,e⟩:=Ue L [] g (λp b=>c p (h.mem_iff.mp b)) ⟨.nil,λp b=>by cases b⟩ (λl b=>by simp at b);refine⟨d,λx=>?_⟩;rw[e,Ud h];exact⟨λz=>z.elim (λw=>absurd w D0) id,.inr⟩
end _gE
namespace _gE
open Spec Rows _L2 _cN _fJ _um _fO
def Iq(r:Row)(x:Int):Bool:=r.any λp=>decide (p.1<=x)&&decide (x<p.2)
def jM{r:Row}{x:Int}:Iq r x=true↔In r x:=by
 unfold Iq In;rw[List.any_eq_true];constructor
 ·rintro⟨p,a,h⟩;rw[Bool.and_eq_true]at h;exact⟨p,a,of_decide_eq_true h.1,of_decide_eq_true h.2⟩
 ·rintro⟨p,a,b,c⟩;exact⟨p,a,by rw[Bool.and_eq_true];exact⟨decide_eq_true b,decide_eq_true c⟩⟩
def fX(r:Row)(a:Wp):Wp:=a.filter λx=>!Iq r x
def rN{r:Row}{a:Wp}(h:∀ x∈a,¬ In r x):fX r a=a:=by
 unfold fX;rw[List.filter_eq_self];intro x b
 cases e:Iq r x with
 | false=>rfl
 | true=>exact absurd (jM.mp e) (h x b)
def Ao{r:Row}{a:Wp}(h:∀ x∈a,In r x):fX r a=[]:=by
 unfold fX;rw[List.filter_eq_nil_iff];intro x b;rw[jM.mpr (h x b)];simp
def qT{r q:Row}{a:Wp}(h:∀ x∈a,In r x↔In q x):fX r a=fX q a:=by
 unfold fX;refine List.filter_congr λx b=>?_
 cases e:Iq r x with
 | true=>rw[jM.mpr ((h x b).mp (jM.mp e))]
 | false =>
  cases c:Iq q x with
  | true=>rw[jM.mpr ((h x b).mpr (jM.mp c))]at e;cases e
  | false=>rfl
def jN(r:Row)(a b:Wp):fX r (a++b)=fX r a++fX r b:=by unfold fX;rw[List.filter_append]
def lo(b:Int):Int->Row->Row
 | l,[]=>[(l,b)]
 | l,p::r=>if p.1<b then (l,if p.1 > l then p.1 else l)::lo b (if b<p.2 then b else p.2) r else [(l,b)]
def Gm{a b c:Int}(h:a<=b)(g:b<=c):gG (a,c)=gG (a,b)++gG (b,c):=by
 unfold gG;show run a (c-a).toNat=run a (b-a).toNat++run b (c-b).toNat;let e:(c-a).toNat=(b-a).toNat+(c-b).toNat:=by lia
 rw[e]
 let z:∀ (n m:Nat) (s:Int),run s (n+m)=run s n++run (s+n) m:=by
  intro n
  induction n with
  | zero=>intro m s;simp[run]
  | succ n d =>
   intro m s;rw[Nat.succ_add,run,run,d,List.cons_append];congr 3;lia
 rw[z];congr 2;lia
theorem Wd(b:Int):∀ (r:Row) (l:Int),l<=b->(∀ p∈r,l<p.2)->uo r->Ok (lo b l r)/\bg (lo b l r)=fX r (gG (l,b))/\(∀ p∈lo b l r,l<=p.1)
 | [],l,h,_,_=>by
  refine⟨λp a=>?_,?_,λp a=>?_⟩
  ·rw[List.mem_singleton.mp a];exact h
  ·rw[rN λx _=>D0];exact fQ _
  ·rw[List.mem_singleton.mp a];exact Int.le_refl _
 | p::r,l,h,s,R=>by
  rw[lo];let t:=R.2 p (by simp);let t:=s p (by simp);let⟨n,u⟩:=List.pairwise_cons.mp R.1;by_cases o:p.1<b
  ·rw[if_pos o];obtain⟨m,s⟩:∃ m,m=(if p.1 > l then p.1 else l):=⟨Y⟩;obtain⟨k,t⟩:∃ k,k=(if b<p.2 then b else p.2):=⟨Y⟩;rw[← s,← t]
   let g:l<=m/\m<=k/\k<=b/\p.1<=m/\k<=p.2/\(m=l\/m=p.1)/\(k=b\/k=p.2):=by
    rw[s,t]
    split <;> split <;> lia
   let⟨v,w,y⟩:=Wd b r k g.2.2.1 (λq a=>by have:=n q a;have:=R.2 q (j0 _ a);lia) ⟨u,λq a=>R.2 q (j0 _ a)⟩;refine⟨λq a=>?_,?_,λq a=>?_⟩
   ·rcases List.mem_cons.mp a with e|e
    ·rw[e];exact g.1
    ·exact v q e
   ·let e:bg ((l,m)::lo b k r)=gG (l,m)++bg (lo b k r):=by unfold bg;rw[i7]
    rw[e,w,Gm (a:=l) (b:=m) (c:=b) g.1 ∅,Gm (a:=m) (b:=k) (c:=b) g.2.1 g.2.2.1,jN,jN]
    let z:fX (p::r) (gG (l,m))=gG (l,m):=rN λx d=>by
     let f:=jL.mp d;rintro⟨q,a,i,j⟩;rcases List.mem_cons.mp a with c|c
     ·rw[c]at i;simp only at f;lia
     ·have:=n q c;simp only at f;lia
    let A:fX (p::r) (gG (m,k))=[]:=Ao λx d=>⟨p,by simp,by have:=(jL.mp d).1;simp only at this;lia,by have:=(jL.mp d).2;simp only at this;lia⟩
    let B:fX (p::r) (gG (k,b))=fX r (gG (k,b)):=qT λx d=>by
     let f:=jL.mp d;simp only at f;constructor
     ·rintro⟨q,a,i,j⟩;rcases List.mem_cons.mp a with c|c
      ·rw[c]at j;lia
      ·exact⟨q,c,i,j⟩
     ·rintro⟨q,a,c⟩;exact⟨q,j0 _ a,c⟩
    rw[z,A,B,List.nil_append]
   ·rcases List.mem_cons.mp a with e|e
    ·rw[e];exact Int.le_refl _
    ·have:=y q e;lia
  ·rw[if_neg o];refine⟨λq a=>?_,?_,λq a=>?_⟩
   ·rw[List.mem_singleton.mp a];exact h
   ·rw[rN λx d=>?_]
    ·exact fQ _
    ·let f:=jL.mp d;simp only at f;rintro⟨q,a,i,j⟩;rcases List.mem_cons.mp a with c|c
     ·rw[c]at i;lia
     ·have:=n q c;lia
   ·rw[List.mem_singleton.mp a];exact Int.le_refl _
theorem P4(b:Int):∀ (r:Row) (l:Int),↑(lo b l r)<=↑r+1
 | [],_=>fF _
 | p::r,l=>by
  rw[lo];split
  ·rw[kH,kH];have:=P4 b r (if b<p.2 then b else p.2);lia
  ·simp
def e'(a:Row)(x:Int)(n:Nat):Prop:=n<=↑a/\(∀ i p,a[i]?=⇑p->i<n->p.2<=x)/\∀ i p,a[i]?=⇑p->n<=i->x<p.2
def e'.drop{c:Row}{x:Int}{n:Nat}(h:e' c x n):(∀ p∈c.drop n,x<p.2)/\∀ y,x<=y->(In c y↔In (c.drop n) y):=by
 refine⟨λp a=>?_,λy b=>⟨λz=>?_,λz=>?_⟩⟩
 ·let⟨i,b⟩:=List.getElem?_of_mem a;rw[List.getElem?_drop]at b;exact h.2.2 _ p b ∅
 ·let⟨p,a,d,e⟩:=z;let⟨i,b⟩:=List.getElem?_of_mem a;by_cases f:i<n
  ·have:=h.2.1 i p b f;lia
  ·refine⟨p,mC (i:=i-n) ?_,d,e⟩;rw[List.getElem?_drop,show n+(i-n)=i by lia];exact b
 ·let⟨p,a,q⟩:=z;exact⟨p,List.mem_of_mem_drop a,q⟩
theorem uo.drop{r:Row}(h:uo r)(n:Nat):uo (r.drop n):=⟨h.1.drop,λp a=>h.2 p (List.mem_of_mem_drop a)⟩
class inductive P7
 | mk (r:Addr) (a:Row) (_:vs=[↥r]) (_:bU H r a) (_:↑a<64) (_:Ok a) (_ :
 ∀ (q:Addr) (b:Row) (c:Hp),bU c q b->uo b->(∀ x,In b x↔In a x)->↑b<=↑a->aJ H c->H q=none->Q ↥q c)
class inductive Ug
 | mk (r:Addr) (a:Row) (x:Int) (_:vs=[↥r,.int x]) (_:bU H r a) (_:uo a) (_: ∀ n:Nat,e' a x n->Q (.int n) H)
class inductive P8
 | mk (r:Addr) (a:Row) (x:Int) (_:vs=[↥r,.int x]) (_:bU H r a) (_:uo a) (_:Q (.bl (Iq a x)) H)
class inductive Yb
 | mk (r:Addr) (c:Row) (a b:Int) (_:vs=[.int a,.int b,↥r]) (_:bU H r c) (_:uo c) (_:↑c<=100000) (_:a<=b) (_ :
 ∀ (q:Addr) (L:Row) (d:Hp),bU d q L->Ok L->bg L=fX c (gG (a,b))->(∀ p∈L,a<=p.1)->↑L<=↑c+1->aJ H d->H q=none->Q ↥q d)
class inductive Nc
 | mk (r o:Addr) (a b:Row) (_:vs=[↥r,↥o]) (_:bU H r a) (_:bU H o b) (_:↑a<=5000) (_:↑b<64) (_:Ok a) (_:Ok b) (_ :
 ∀ (q:Addr) (c:Hp),bU c q (cy (fX b (bg a)))->↑(cy (fX b (bg a)))<=↑a*(↑b+1)->aJ H c->H q=none->Q ↥q c)
end _gE
namespace _gE
open Spec Rows _L2 _cN _fJ _um _X8
structure cM(K:Frag)(C:Addr)(m fV:Str)(st:Stmt)(ps:UV)(a:Addr)(d:FuncData):Prop where
 F:O9 K m fV st a d
 b:Binds K d ps []
 mt:OO K C m a
structure ClsAt(K:Frag)(mg:Ya)(x:Str)(C fi:Addr):Prop where
 cl:Od K C
 m:mg x=⇑↥C
 ZI:Mk K C fi
def bU.obj{H a:Hp}{r x C f:Addr}{b:Row}{g:List (Str × V)}(h:bU H r b)(c:H x=⇑(.ins C f g))(s:cD x H a):bU a r b:=by
 let⟨e,d,i⟩:=h;exact⟨e,s _ _ d (cS d c),i.tups λd i e=>s d _ e (cS e c)⟩
end _gE
namespace _gE
open _L2 _cN _fJ
section
variable {p:List Value->Prop}
theorem ge(h:p []):∀ a:List Value,↑a=0->p a:=λa e=>by rw[List.length_eq_zero_iff.mp e];exact h
def ZJ{n:Nat}(h:∀ b (a:WP),↑a=n->p (b::a)):∀ a:List Value,↑a=n+1->p a:=by
 intro a e
 cases a with
 | nil=>cases e
 | cons b a=>exact h b a (Nat.succ.inj e)
theorem gk(h:∀ a,p [a]):∀ b:List Value,↑b=1->p b:=ZJ λa=>ge (p:=λb=>p (a::b)) (h a)
theorem gl(h:∀ a c,p [a,c]):∀ b:List Value,↑b=2->p b:=ZJ λa=>gk (p:=λb=>p (a::b)) (h a)
theorem gq(h:∀ a c d,p [a,c,d]):∀ b:List Value,↑b=3->p b:=ZJ λa=>gl (p:=λb=>p (a::b)) (h a)
theorem gs(h:∀ a c d e,p [a,c,d,e]):∀ b:List Value,↑b=4->p b:=ZJ λa=>gq (p:=λb=>p (a::b)) (h a)
theorem gt(h:∀ a c d e f,p [a,c,d,e,f]):∀ b:List Value,↑b=5->p b:=ZJ λa=>gs (p:=λb=>p (a::b)) (h a)
theorem j1(h:∀ a c d e f g,p [a,c,d,e,f,g]):∀ b:List Value,↑b=6->p b:=ZJ λa=>gt (p:=λb=>p (a::b)) (h a)
end
section
variable {K:Frag} {mg:Ya} {h:Heap} {x fV:Str} {st:Stmt} {f C:Addr} {ps:UV}
def DI.d(q:DI K x st f)(b:K.In h)(G:h.Ns mainGlobals mg)(c:∀ (kV e g:Value) (i:Option Addr) (j k:Value) (a:WP),↑a=↑ps->bindArgs (fnOf x x (nI st) (jI st) (b9 st) .none kV e g i j k) ⟨a,[]⟩=pure (ps.zip a):=by bv_decide):∃ l,cB K mg x st ps f l:=by
 let⟨d,m,n,o⟩:=q;let F:=Jc m n o;exact⟨_,F,F.binds c,mg_of b G d⟩
def MI.d(q:MI K C x fV st f)(b:∀ (kV c e:Value) (g:Option Addr) (i j:Value) (a:WP),↑a=↑ps->bindArgs (fnOf x fV (nI st) (jI st) (b9 st) .none kV c e g i j) ⟨a,[]⟩=pure (ps.zip a):=by bv_decide):∃ l,cM K C x fV st ps f l:=by
 let⟨d,h,m,n,k⟩:=q;let F:=Jc m n k;exact⟨_,F,F.binds b,⟨d,h,k⟩⟩
def CI.d(q:CI K x C)(a:K.In h)(G:h.Ns mainGlobals mg)(m:OO K C "v" b):ClsAt K mg x C b:=by
 let⟨c,d,e,f,g,mk,i⟩:=q;let⟨j,k,l⟩:=m;exact⟨⟨d,e,f,g⟩,mg_of a G c,⟨mk,j,k,i⟩⟩
end
end _gE
namespace _cN
open Spec Rows _L2
theorem ko{a b:Type}{c:a->b->Prop}:∀ {d:List a} {f:List b} {i:Nat} {x:a},Paired c d f->d[i]?=⇑x->∃ y,f[i]?=⇑y/\c x y
 | _,_,_,_,.nil,e=>by simp at e
 | _,_,0,_,.cons r _,e=>by simp at e;subst e;exact⟨Y,r⟩
 | _,_,i+1,x,.cons _ t,e=>by
  let⟨y,g,h⟩:=ko (i:=i) (x:=x) t (by simpa using e);exact⟨y,by simpa using g,h⟩
theorem nL{b a:Type}{c:b->a->Prop}:∀ {d:List b} {f:List a} {i:Nat} {y:a},Paired c d f->f[i]?=⇑y->∃ x,d[i]?=⇑x/\c x y
 | _,_,_,_,.nil,e=>by simp at e
 | _,_,0,_,.cons r _,e=>by simp at e;subst e;exact⟨Y,r⟩
 | _,_,i+1,y,.cons _ t,e=>by
  let⟨x,g,h⟩:=nL (i:=i) (y:=y) t (by simpa using e);exact⟨x,by simpa using g,h⟩
def D3(v d:Addr):HO:=.ext λh=>h.IsValuesView v d
def JF{a:Cx}:VP a "dict.values" (λx b H Q=>∃ (d:Addr) (c:List (eG × V)),x=↥d/\b=[]/\H d=⇑(.dK c)/\∀ v,H v=none->Q ↥v (aO H v (D3 v d))):=by
 intro j s l H x b v m Q I f g h;let⟨d,c,rfl,rfl,i,q⟩:=h;cases (show v=Value.ref d from f);cases g;let⟨z,g,h,j,f⟩:=Ab I.hok i;refine call_meetsIn PySem.F.slot_dict_values f.typeIs PySem.F.entry_dict_values (PySem.F.args_dict_values_1 _) (meets_dict_values (eU a.prog a.w) d g) ⟨⟨_,f⟩,?_⟩;refine⟨↥s⁻¹,_,I.laid (o:=D3 s⁻¹ d) (t':=s.toks) (λf o e=>Heap.get?_push_of_some _ e) (fF _) ⟨⟨_,Heap.get?_push_size _ rfl,V⟩,⟨_,Heap.get?_push_size _ rfl⟩,λf g ⟨o,e,r⟩ k=>⟨o,k o e,r⟩⟩,1,q _ (I.hok.fresh (fF _))⟩
theorem ye(a:Wp):∀ j,preSum (λi=>a.getD i 0) j=(a.take j).sum
 | 0=>by simp[preSum]
 | j+1=>by
  rw[preSum,ye a j];by_cases h:j<↑a
  ·rw[List.take_succ_eq_append_getElem h,List.sum_append];simp[h]
  ·rw[qv ∅,qv ∅];simp[h]
def Nd{a:Cx}(r:a.calm=true):jB a (.builtin "sum") (λg H Q=>∃ (v d:Addr) (c:List (eG × V)) (b:Wp),g=[↥v]/\H v=⇑(D3 v d)/\H d=⇑(.dK c)/\c.map (·.2)=b.map V.int/\Q (.int b.sum) H):=by
 intro N s O H g R Q I j u;let⟨v,d,c,b,rfl,w,x,h,y⟩:=u;let⟨A,rfl,B⟩:=j.one;cases (show A=Value.ref v from B);let⟨u,_⟩:=(show gn a.prog a.w H s.heap v (D3 v d) from I.hok v _ w);let⟨z,A,j,k,w⟩:=Ab I.hok x;let⟨x,f⟩:=w.dictAt;let w:=↑k
 let w:↑c=↑b:=by
  have:=congrArg List.length h;simpa using this
 let l:=f.lt_size;refine call_sum_walkG (wpAny_pyIter_values u f ?_);refine⟨s⁻¹,[s⁻¹,d],[s⁻¹],↑j,E,λi=>b.getD i 0,1,Walks.dictValues (A:=a.A.in1) (knd:=eU a.prog a.w) (I.ok.hd r) s⁻¹ d (i9 l) j x,⟨⟨_,Heap.get?_push_size _ rfl,V⟩,f.push _⟩,λm n=>?_,λi C D=>?_,λf j F G=>?_⟩
 ·rw[Heap.size_push];simp only[List.mem_cons,List.not_mem_nil,or_false]at n;rcases n with rfl|rfl
  ·exact Nat.lt_succ_self _
  ·exact Nat.lt_succ_of_lt l
 ·let⟨f,e⟩:=D;let⟨p,f,J⟩:=nL k e;let o:(c.map (·.2))[i]?=⇑p.2:=by rw[kB,f];rfl
  rw[h,kB]at o;let⟨L,M,f⟩:=Option.map_eq_some_iff.mp o;let q:RelV p.2 C:=J.2;rw[← f]at q;let⟨t,rfl⟩:=q;exact⟨t,by show Value.int L t=Value.int (b.getD i 0) t;rw[List.getD_eq_getElem?_getD,M];rfl⟩
 ·rw[ye,qv ∅];exact⟨.int b.sum,H,I.kept λm o e=>G m o (λz=>by rw[List.mem_singleton.mp z]at e;exact absurd (Heap.lt_size e) (Nat.lt_irrefl _)) (Heap.get?_push_of_some _ e),⟨F,1⟩,y⟩
section
variable {X:Cx} {N:UV} {scope:Scope} {cl:List (Str × Addr)} {C:Addr} {s₀:Shared} {H₀:Hp} {ex:WF} {pn:List (Addr × Obj)} {e:Expr} {ta:TE} {f:Str} {pos:Pos}
theorem LN(a:PE (jg X N scope cl C s₀ H₀ ex pn) e ta)(b:attributeBase e f (jg X N scope cl C s₀ H₀ ex pn).env (eval e (jg X N scope cl C s₀ H₀ ex pn).env)=eval e (jg X N scope cl C s₀ H₀ ex pn).env):PE (jg X N scope cl C s₀ H₀ ex pn) (.Attribute e f pos) (hZ X.K ta f):=cG a b
end
end _cN
namespace _cN
open Spec Rows _L2 _gE _um
def Yc(d e f:TE):TE:=fun a H Q=>d a H λx c=>∃ b,x=↥b/\gb c b/\e a c λy c=>f a c λz c=>∃ a k,c b=⇑(.dK a)/\y=kV k/\↑a<sizeLine/\
 (∀ v,cE a k=⇑v->Q v c)/\(cE a k=none->Q z (aO c b (.dK (dX a k z))))
def Qa{a:Cx}{e f:Expr}{l n o:TE}(y:PE a p l)(A:PE a e n)(B:PE a f o)(m:M2 a p "setdefault" C e f D):PE a (.Call (.Attribute p "setdefault" C) [e,f] [] D) (Yc l n o):=by
 intro g s h H Q I F;refine wpAny_Call_method m.zt m.few m.line PySem.F.plainAttrs_dict PySem.F.slot_dict_setdefault PySem.F.type_dict_setdefault (dP (y g s h H _ I F) λG J F=>?_);let⟨H,L,q,M,i,N,O,R⟩:=F;subst N;obtain rfl:G=Value.ref i:=M;let⟨F,G,_⟩:=PJ q O;exists F,G;rw[m.trees]
 refine Calls.callWith_builtin rfl (Calls.evalArgs_plain (Calls.spliced_cons (dP (A g J h L _ q R) λI q ⟨J,F,G,S,H⟩ =>
  Calls.spliced_cons (dP (B g q h F _ G H) λb d ⟨z,T,j,t,c,k,u,U,g,W,X⟩=>Calls.spliced_nil ?_))))
 subst U;let⟨q,v,h,d,g⟩:=Ab j.hok u;let q:=↑d;refine call_meetsIn PySem.F.slot_dict_setdefault g.typeIs PySem.F.entry_dict_setdefault (PySem.F.args_dict_setdefault_3 _ _ _) (kt_meets_setdefault (eU a.prog a.w) i (Aa S) v b) ⟨h,g,by lia,λh g=>?_,λhn h' x hs=>?_⟩
 ·let r:=d.val k;rw[g]at r
  cases b:cE c k with
  | none=>rw[b]at r;exact (show False from r).elim
  | some w =>
   rw[b]at r;exact⟨w,T,j.tok _,r,W w b⟩
 ·let r:=d.val k;rw[hn]at r
  cases b:cE c k with
  | some w=>rw[b]at r;exact (show False from r).elim
  | none =>
   let g:↑(dX c k z)<=sizeLine:=by have:=iL c k z;lia
   let c:∃ q,h'.get? i=⇑q:=let ⟨q,E,h,_⟩:=x;⟨q,h⟩;exact⟨z,_,yQ j (by rw[u];exact True.intro) hs c (Jp g v (d.put k t) x),t,X b⟩
end _cN
namespace _cN
open Spec Rows _L2
end _cN
namespace _cN
open Spec Rows _L2 _gE _um
end _cN
namespace _fJ
open Spec Rows PySem.W _L2
end _fJ
namespace _cN
open Spec Rows _L2 _fJ
def rY(c:Nat):V:=.str ⟨(List.toArray [c])⟩
def gi(a:List Nat):Str:=⟨a.toArray⟩
def pC(x:Str):gi x.cps.toList=x:=by cases x;rfl
def pD(a:List Nat):↑(gi a)=↑a:=by show (a.toArray).size=_;simp
def Uh{a b:List Nat}(h:gi a=gi b):a=b:=by
 let e:=congrArg (λx:Str=>x.cps.toList) h;simpa [gi] using e
theorem LO:∀ {a:List Nat} {b:WP},cK (a.map rY) b->StrsAre b (a.map λc=>(⟨(List.toArray [c])⟩:Str))
 | [],_,.nil=>.nil
 | c::a,_,.cons ⟨t,e⟩ r=>by
  subst e;exact .cons _ t (LO r)
def JG(a:List Nat):Txt.join (Str.ofString "") (a.map λc=>(⟨(List.toArray [c])⟩:Str))=gi a:=by
 let e:Txt.join (Str.ofString "") (a.map λc=>(⟨(List.toArray [c])⟩:Str))=Str.join (Str.ofString "") (a.map λc=>(⟨(List.toArray [c])⟩:Str)):=by
  let z:=join_plain_closes (Str.ofString "") (a.map λc=>(⟨(List.toArray [c])⟩:Str));exact beq_iff_eq.mp z
 rw[e];let b:(Str.ofString "")=(⟨#[]⟩:Str):=by decide +kernel
 rw[b];clear e b
 induction a with
 | nil=>rfl
 | cons c a f =>
  cases a with
  | nil=>rfl
  | cons d a =>
   rw[iu]at f;let s:Str.join ⟨#[]⟩ ((c::d::a).map λc=>(⟨(List.toArray [c])⟩:Str))=Str.append (Str.append ⟨(List.toArray [c])⟩ ⟨#[]⟩) (Str.join ⟨#[]⟩ ((⟨(List.toArray [d])⟩:Str)::a.map λc=>(⟨(List.toArray [c])⟩:Str))):=rfl;rw[s,f];show (⟨((List.toArray [c])++#[])++(d::a).toArray⟩:Str)=⟨(c::d::a).toArray⟩;simp
theorem C0:∀ a:List Nat,(a.map ((λx:Str=>↑x) ∘ λc=>(⟨(List.toArray [c])⟩:Str))).sum=↑a
 | []=>rfl
 | c::a=>by rw[iu,List.sum_cons,C0 a,kH];show 1+_=_;lia
theorem all_range:∀ a:List Bool,(List.range ↑a).all (λi=>a.getD i false)=a.all id
 | []=>rfl
 | b::a=>by
  rw[kH,List.range_succ_eq_map,List.all_cons,List.all_map,List.all_cons,← all_range a];rfl
section
variable {X:Cx}
def Br(p:X.calm=true):jB X (.type "h") (λi H Q=>∃ a:List Nat,i=[.str (gi a)]/\↑a<=sizeLine/\∀ l,H l=none->Q ↥l (aO H l (.lst (a.map rY)))):=by
 intro A s B H i b Q I r q;let⟨a,rfl,k,t⟩:=q;let⟨u,rfl,w,rfl⟩:=r.one;refine call_list_str (I.ok.hd p) (gi a) w (hn:=by show a.toArray.size<=_;simpa using k) λA q m e r w n=>?_;refine⟨↥s⁻¹,_,I.laid (o:=.lst (a.map rY)) (t':=q) r (fF _) ⟨by rw[b8];exact k,m.toList,e,?_,by simpa using w⟩,1,t _ (I.hok.fresh (fF _))⟩
 let x:∀ (a:List Nat) (b:WP),↑b=↑a->(∀ (j:Nat) (v:Value),b[j]?=⇑v->∃ c u,a[j]?=⇑c/\v=Value.str ⟨(List.toArray [c])⟩ u)->cK (a.map rY) b:=by
  intro a
  induction a with
  | nil=>intro b d _;cases b with
   | nil=>exact .nil
   | cons=>simp at d
  | cons c a y=>intro b d o;cases b with
   | nil=>simp at d
   | cons u b =>
    let⟨e,z,f,g⟩:=o 0 u rfl;refine .cons ?_ (y b (by simpa using d) λj v h=>by simpa using o (j+1) v (by simpa using h));have:c=e:=by simpa using f
    subst this;exact⟨z,g⟩
 refine x a m.toList (by have:=n.1;simpa [gi] using this) λj v h=>?_;let⟨c,u,f,g⟩:=n.2 j v (by simpa using h);exact⟨c,u,by simpa [gi] using f,g⟩
def Aq:VP X "str.join" (λx b H Q=>∃ (l:Addr) (a:List Nat),x=.str ""/\b=[↥l]/\H l=⇑(.lst (a.map rY))/\↑a<=1000000/\Q (.str (gi a)) H):=by
 intro g s i H x b v j Q I c d h;let⟨l,a,rfl,rfl,e,g,q⟩:=h;let⟨t,rfl⟩:=c;let⟨u,rfl,f⟩:=d.one;cases (show u=Value.ref l from f);let⟨f,c,d,_⟩:=I.list (bJ.of (K:=X.K) e);refine join_list d.isList (LO c) ?_ λc k=>?_
 ·rw[nE];let d:↑(Str.ofString "")=0:=by decide +kernel
  let e:=C0 a;rw[d,e];lia
 ·rw[JG];exact⟨.str (gi a),H,I.tok _,⟨c,1⟩,q⟩
def Nf(k:X.calm=true):jB X (.builtin "all") (λf H Q=>∃ (p:Addr) (a:List Bool),f=[↥p]/\bJ X.K H p (a.map V.bl)/\Q (.bl (a.all id)) H):=by
 intro B s C H f D Q I r l;let⟨p,a,rfl,m,q⟩:=l;let⟨u,rfl,n⟩:=r.one;cases (show u=Value.ref p from n);let⟨b,g,l,n⟩:=I.list m;let h:=↑g;rw[b8]at h;let d:=l.isList
 let l:p<s⁻¹:=by
  let⟨o,c,_⟩:=d;exact Heap.lt_size c
 refine call_all_walk (wpAny_pyIter_list d ?_);refine⟨s⁻¹,[s⁻¹,p],[s⁻¹],b.toArray.size,E,λi=>a.getD i false,1,Walks.list (A:=X.A.in1) (I.ok.hd k) s⁻¹ p (i9 l) b.toArray,⟨⟨_,Heap.get?_push_size _ rfl,V⟩,d.at λo e=>Heap.get?_push_of_some _ e⟩,λi v t w l d x=>?_,λl m y=>?_⟩
 ·let l:b[i]?=⇑v:=by simpa using d
  let⟨d,j,z⟩:=nL g l;rw[kB]at j;let⟨c,A,rfl⟩:=Option.map_eq_some_iff.mp j;cases (show v=Value.bool c from z);refine wpAny_truthy_bool ?_;let e:a.getD i false=c:=by rw[List.getD_eq_getElem?_getD,A];rfl
  let d:w (a.getD i false) t:=x;rw[e]at d;exact d
 ·let e:(List.range b.toArray.size).all (λi=>a.getD i false)=a.all id:=by
   rw[iF,← h];exact all_range a
  rw[e];exact⟨.bl (a.all id),H,I.kept λc o e=>y c o (λz=>by rw[List.mem_singleton.mp z]at e;exact absurd (Heap.lt_size e) (Nat.lt_irrefl _)) (Heap.get?_push_of_some _ e),1,q⟩
def Qc(r e f:R2)(g h i j:TE):TE:=fun a H Q=>g a H λx b=>h a b λy b=>r x y b λz b=>∃ k,z=.bl k/\
 (if k=true then i a b λu c=>e y u c λk c=>∃ d,k=.bl d/\(if d=true then j a c λv a=>f u v a Q else Q (.bl false) c) else Q (.bl false) b)
theorem Ng{c d e:CmpOp}{r i j:R2}{k f g h:Expr}{l m n o:TE}(A:tV X (compareOp c) r)(B:tV X (compareOp d) i)(C:tV X (compareOp e) j)(D:PE X k l)(G:PE X f m)(H:PE X g n)(I:PE X h o)
  (J:lastMarks [c,d,e] [f,g,h]=false:=by with_unfolding_all rfl):PE X (.Compare k [c,d,e] [f,g,h] ab) (Qc r i j l m n o):=by
 intro a s b F Q L M
 refine Compare_chain (dP (D a s b F _ L M) λF L ⟨M,N,O,R,S⟩=>chain_link (dP (G a L b N _ O S) λu L ⟨y,N,O,p,S⟩ =>
  dP (A a L b N M y F u _ O R p S) λz w ⟨x,q,t,T,U,W,v⟩=>?_)) J
 subst W;cases T;refine wpAny_truthy_bool ?_
 cases U with
 | false=>exact ite_ff ⟨.bl false,q,t,1,v⟩
 | true =>
  refine ite_tt (chain_link (dP (H a w b q _ t v) λq F ⟨t,L,M,v,N⟩=>dP (B a F b L y t u q _ M p v N) λu s5 p=>?_));let⟨u,w,x,r5,k5,e5,z⟩:=p;subst e5;cases r5;refine wpAny_truthy_bool ?_
  cases k5 with
  | false=>exact ite_ff ⟨.bl false,w,x,1,z⟩
  | true=>exact ite_tt (chain_last (dP (I a s5 b w _ x z) λp u ⟨w,x,y,z,F⟩=>C a u b x t w q p Q y v z F))
end
def gz(a:List Nat):It:=⟨λi _=>i<↑a,λi H x b=>b=H/\∃ c,a[i]?=⇑c/\x=rY c,λi _=>i=↑a⟩
theorem Gn{P:Program}{w:World}{K:Frag}{a:Addr}{b:List Nat}{t:Tok}{g:String}(W:∀ C:Around,C.handled=none->Walks P w C a [a] [a] (gi b).cps.size (SignAt (gi b)) (λi h=>h.IsStrIter a g (gi b) t i))
  (J:∀ (L:Around) (i:Nat) (s:Shared) (Q:ZB) (E:ZB),s.heap.IsStrIter a g (gi b) t i->Q ↥a s->wpAny (model P w) L (pyIter ↥a) Q E s)
  (M:["enumerate","zip","dict_itemiterator","U","odict_iterator","3","itertools.pairwise"].contains g=false):IL P w K tg (gz b) [a] a (λi h=>h.IsStrIter a g (gi b) t i) where
 mem:=by simp
 obj:=λi h c d f=>by
  let e:d=a:=by simpa using f
  subst e;let⟨o,e,l,j⟩:=c;exact⟨o,e,λN z=>by rw[j]at z;cases z⟩
 keep:=λi h j c O=>by
  let⟨o,e,r⟩:=c;exact⟨o,O a (by simp) o e,r⟩
 item:=by
  intro X m n p q i D s F H E I k c r;subst m n p;let⟨u,v,R,x,y,z⟩:=k a (by simp)
  let O:i<(gi b).cps.size:=by
   show i<b.toArray.size;rw[iF];exact r
  refine (W X.A (I.ok.hd q)).item i s _ _ O c λN j A S G B=>?_;let⟨l,T,U,rfl⟩:=S;have N:Inv X D F H { s with heap:=j,toks:=A }:=I.turned (λd o f e=>B d o (by simpa using f) e) u v x y z;let⟨S,e,o,O⟩:=id G;exact⟨Y,FH (s:={ s with heap:=j,toks:=A }) e o O M ⟨rY l,H,N,⟨T,1⟩,⟨1,l,by simpa [gi] using U,1⟩,G,λd f=>(k d f).1⟩⟩
 done:=by
  intro X m n p q i D s F H E I k c r;subst m n p;let⟨u,v,R,x,y,z⟩:=k a (by simp)
  let e:i=(gi b).cps.size:=by
   show i=b.toArray.size;rw[iF];exact r
  rw[e]at c;exact (W X.A (I.ok.hd q)).done s _ _ c λj A B=>⟨1,I.turned (λd o f e=>B d o (by simpa using f) e) u v x y z⟩
 self:=J
def uB(b:TE):TI:=fun a H R=>b a H λx c=>∃ a,x=.str (gi a)/\R (gz a) c
def Yd{d:Cx}{l:Expr}{i:TE}(n:PE d l i):PI d x l (uB i):=by
 intro j s o H R I h;refine dP (n j s o H _ I h) λr a o=>?_;let⟨y,f,c,p,r⟩:=o;let⟨u,e,q⟩:=r;subst e;let⟨t,rfl⟩:=p
 let k:∀ b∈[a⁻¹],oZ d j f b:=λb j=>by
  let e:b=a⁻¹:=by simpa using j
  subst e;exact c.Mw (fF _) (c.hok.fresh (fF _))
 cases m:(gi u).cps.all (·<128) with
 | true=>exact wpAny_pyIter_ascii m ⟨a⁻¹,[a⁻¹],E,f,1,c.kept (t':=a.toks) λb v e=>Heap.get?_push_of_some _ e,Gn (t:=t) (λw g=>Walks.strAscii g _ _ t) (λ_ _ _ _ _ g h=>wpAny_pyIter_striter_ascii g h) (by decide),⟨_,Heap.get?_push_size _ rfl,V⟩,k,q⟩
 | false=>exact wpAny_pyIter_wide m ⟨a⁻¹,[a⁻¹],E,f,1,c.kept (t':=a.toks) λb v e=>Heap.get?_push_of_some _ e,Gn (t:=t) (λw g=>Walks.strWide g _ _ t) (λ_ _ _ _ _ g h=>wpAny_pyIter_striter_wide g h) (by decide),⟨_,Heap.get?_push_size _ rfl,V⟩,k,q⟩
theorem Nh{a:List Nat}{j:TG}{tt:TT}{k:TE}{l:_L2.St}{H:Hp}{Q:VK}(c:Nat->_L2.St->Hp->Prop)(q:c 0 l H)
  (r:∀ (i:Nat) d b H,a[i]?=⇑d->c i b H->j (rY d) b H fun e t=>tt e t λu m=>if u=true then k e m λv n=>∃ f,n g=⇑(.lst f)/\↑f<sizeLine/\c (i+1) e (aO n g (.lst (f++[v]))) else c (i+1) e m)
  (w:∀ b H,c ↑a b H->Q ↥g H):rJ (gz a) g j tt k l H Q:=by
 refine⟨λi o b H=>o=↑a-i/\i<=↑a/\c i b H,⟨↑a,by simp,mR _,q⟩,?_⟩;rintro i o b H ⟨rfl,o,p⟩;by_cases o:i<↑a
 ·refine .inr ⟨o,c (i+1),fun A s x=>⟨↑a-(i+1),by lia,1,o,x⟩,λx s y=>?_⟩;let⟨h,d,y,z⟩:=y;subst h z;exact r i d b _ y p
 ·let h:i=↑a:=by lia
  subst h;exact .inl ⟨1,w b H p⟩
end _cN
namespace _cN
open Spec Rows _L2 _fJ _gE
section
variable {X:Cx}
def D4(a b:List Nat):gi a++gi b=gi (a++b):=by
 show (⟨a.toArray++b.toArray⟩:Str)=⟨(a++b).toArray⟩;simp
end
end _cN
namespace _uv
end _uv
namespace _uv
open Spec Rows
end _uv
namespace _uv
open Spec Rows
end _uv
namespace _uv
open Spec Rows
end _uv
namespace _uv
open Spec Rows
end _uv
namespace _uv
open Spec Rows
end _uv
namespace _uv
open Spec Rows
end _uv
namespace _uv
open Spec Rows _L2
end _uv
namespace _i6
open Spec Rows _L2 _cN Builtin Builtin.Str
def vE(a:List Nat):(gi a).cps.toList=a:=by simp[gi]
def jn(c:Nat):gS->List Nat
 | []=>[]
 | [x]=>x
 | x::y::r=>x++c::jn c (y::r)
theorem Qd(c:Nat):∀ a:gS,Str.join ⟨(List.toArray [c])⟩ (a.map gi)=gi (jn c a)
 | []=>rfl
 | [x]=>rfl
 | x::y::r=>by
  show gi x++⟨(List.toArray [c])⟩++Str.join ⟨(List.toArray [c])⟩ ((y::r).map gi)=_;rw[Qd c (y::r)];refine ext_toList ?_;rw[vE];show ((gi x).cps++(List.toArray [c])++(gi (jn c (y::r))).cps).toList=_;rw[Array.toList_append,Array.toList_append,vE,vE];simp[jn]
end _i6
namespace _i6
open Spec Rows _L2 _cN Builtin Builtin.Str
section
variable {X:Cx}
theorem C1:∀ {a:UV} {b:WP},cK (a.map V.str) b->StrsAre b a
 | [],_,.nil=>.nil
 | _::_,_,.cons r t=>by
  let⟨c,rfl⟩:=r;exact .cons _ c (C1 t)
def Gp:VP X "str.join" (λx b H Q=>∃ (l:Addr) (c:Nat) (a:gS),x=.str ⟨(List.toArray [c])⟩/\b=[↥l]/\H l=⇑(.lst (a.map λw=>V.str (gi w)))/\(a.map List.length).sum+↑a<=1000000/\Q (.str (gi (jn c a))) H):=by
 intro k s m H x b v n Q I d e h;let⟨l,c,a,rfl,rfl,f,k,q⟩:=h;let⟨t,rfl⟩:=d;let⟨u,rfl,g⟩:=e.one;cases (show u=Value.ref l from g);let⟨d,e,g,_⟩:=I.list (bJ.of (K:=X.K) f);let f:cK ((a.map gi).map V.str) d:=by rw[nE];exact e
 refine join_list g.isList (C1 f) ?_ λi k=>?_
 ·rw[nE,b8];let j:↑(⟨(List.toArray [c])⟩:Str)=1:=rfl;let d:a.map ((λx:Str=>↑x) ∘ gi)=a.map List.length:=uN λp _=>pD p;rw[j,d];lia
 ·let e:Txt.join ⟨(List.toArray [c])⟩ (a.map gi)=gi (jn c a):=by
   show glued _ _=_;rw[StrLaws.glued_eq_join,Qd]
  rw[e];exact⟨.str (gi (jn c a)),H,I.tok _,⟨i,1⟩,q⟩
abbrev fb:=_L2.St->Hp->Str->(Str->Hp->Prop)->Prop
def ZK(X:Cx)(d:List Expr)(m:Nat)(t:fb):Prop:=∀ (c:List (Addr × Obj)) (s:Shared) (a:_L2.St) (H:Hp) (b:Str) (Q:Str->Hp->Prop),_L2.Inv X c a H s->t a H b Q->↑b+m<=1000000->
 wpAny (model X.prog X.w) X.A (joinParts b (evalEach d X.env)) (λu e=>∃ x f b,u=.str x f/\_L2.Inv X c a b e/\Q x b) X.xe s
theorem Ui:ZK X [] 0 (λ_ H a Q=>Q a H):=λc s d H a Q I h b =>
 joinParts_nil ⟨a,_,H,1,I.tok _,h⟩ (gV (Nat.lt_of_le_of_lt b (by decide)))
def Uj{x:Str}{j:Nat}{b:List Expr}{m:Nat}{t:fb}(h:ZK X b m t):ZK X (.Constant (.str x) j f::b) (↑x+m) (fun a H c Q=>t a H (c++x) Q):=by
 intro d s a H c Q I q e;refine joinParts_consE (joinParts_cons (Calls.Constant_str ?_));let z:=_fJ.LC (y:=x) e (fF _);exact⟨z.1,h d _ a H _ Q (I.tok _) q z.2⟩
def LP{e:Expr}{c:TE}{d:List Expr}{m:Nat}{t:fb}(j:PE X e c)(k:ZK X d m t):ZK X (.FormattedValue e (-1) none w::d) (1921+m) (fun a H f Q=>c a H λv b=>∃ i:Int,v=.int i/\i.natAbs.log2<1920/\t a b (f++Str.ofString (toString i)) Q):=by
 intro g s a H f Q I q l;refine joinParts_consE (joinParts_cons (FormattedValue_plain (dP (j g s a H _ I q) λv q n=>?_)));let⟨x,b,o,p,i,r,h,u⟩:=n;subst r;let⟨y,rfl⟩:=p;refine formatField_int_small h ?_;let z:=_fJ.LC (y:=Str.ofString (toString i)) l (int_text_len_1921 h);exact⟨z.1,k g _ a b _ Q (o.tok _) u z.2⟩
def Qe{c:List Expr}{m:Nat}{t:fb}(h:ZK X (d::e::c) m t)(k:m<=1000000:=by decide +kernel):PE X (.JoinedStr (d::e::c) l) (fun a H Q=>t a H Str.empty λx b=>Q (.str x) b):=by
 intro f s a H Q I q;refine JoinedStr_many (dP (h f s a H Str.empty _ I q (by show 0+m<=_;lia)) λu n f=>?_);let⟨x,n,b,g,i,j⟩:=f;subst g;exact⟨.str x,b,i,⟨Y⟩,j⟩
end
end _i6
namespace _i6
open Spec Rows _L2 _cN Builtin Builtin.Str
end _i6
namespace _i6
open Spec Rows _L2 _cN Builtin Builtin.Str _gE
def dg(n:Int):List Nat:=(Nat.toDigits 10 n.toNat).map Char.toNat
def yS{n:Int}(h:0<=n):Str.ofString (toString n)=gi (dg n):=by
 refine ext_toList ?_;rw[vE];obtain⟨m,rfl⟩:∃ m:Nat,n=(m:Int):=⟨n.toNat,by lia⟩;exact PySem.W.KIN.signs_num m
def JH{n:Int}(a:0<=n)(b:n<10^60):↑(dg n)<=60:=by
 have:=toString_length_le a (k:=60) (by decide) b;rw[yS a,pD]at this;exact this
end _i6
namespace _i6
open Spec Rows _L2 _cN Builtin Builtin.Str _gE
end _i6
namespace _uL
open Spec Rows PySem.W _L2 _cN _fJ
end _uL
namespace _Bs
open Spec Rows _L2 _cN _fJ _gE
end _Bs
namespace _Bs
open Spec Rows _L2 _cN _fJ _gE PySem.W
section
variable {X:Cx}
def u0{e:Expr}{f:TE}(j:PE X e f):PE X (.JoinedStr [.FormattedValue e (-1) none p] r) (fun c H Q=>f c H λv a=>(∃ i:Int,v=.int i/\i.natAbs.log2<1920/\Q (.str (Str.ofString (toString i))) a)\/∃ b:List Nat,v=.str (gi b)/\↑b<=100000/\Q (.str (gi b)) a):=by
 intro k s c H Q I q;refine JoinedStr_one (FormattedValue_plain (dP (j k s c H _ I q) λv q k=>?_));let⟨x,a,g,h,l⟩:=k;rcases l with ⟨i,rfl,m,d⟩|⟨b,rfl,n,d⟩
 ·let⟨o,rfl⟩:=h;exact formatField_int_small m ⟨.str _,a,g.tok _,⟨Y⟩,d⟩
 ·let⟨o,rfl⟩:=h;exact formatField_str (λh k=>⟨.str _,a,g.tok _,⟨Y⟩,d⟩) (by rw[pD];exact iG n (by decide))
end
end _Bs
namespace _Bs
open Spec Rows _L2 _cN _fJ _gE _i6 Builtin Builtin.Str
end _Bs
namespace _Bs
open Spec Rows _L2 _cN Builtin Builtin.Str _gE
end _Bs
namespace _fJ
open Spec Rows PySem.W _L2
end _fJ
namespace _fJ
open Spec Rows PySem.W _L2
section
variable {X:Cx} {ay:List (Addr × Obj)} {σ:_L2.St} {H:Hp} {s:Shared} {a:Addr}
variable {x m:Str} {st:Stmt} {ps:UV} {f C:Addr} {fd:FuncData} {j k:Nat} {sp:Sp} {e o:Expr} {es:List Expr} {ta:TE} {t:TA} {p j7 pos:Pos} {pl:Sem Bool}
variable {te:FS} {i:Nat} {z:Str} {ja:Pos} {c:Expr} {tc:TT} {tx ty:FV} {a b:Stmt} {hs:List Hd}
theorem vF{y:Str}(d:_gE.cB X.K X.mg x st ps f fd)(g:X.mg y=⇑↥f)(G:aZ X.prog X.w X.K X.mg X.zt cQ k f fd ps sp)(h:jr j X.A)
  (l:PA X (e::es) t) (n:k<=j:=by first|decide|lia) (q:Gl X y:=by rfl) (r:(y == ("u":Str))=false:=by decide) (u:starEach (e::es) X.env=(false,eval e X.env)::starEach es X.env:=by rfl)
  (v:(backTo pos (starEach es X.env)).any (·.1)=false:=by rfl):PE X (.Call (.Name y p) (e::es) [] pos) (Ld sp [] E0 t) :=
 Lg G (h.mono n) q g d.F.kp d.b .nil bH l r u v
end
end _fJ
namespace _nZ
open Spec Rows PySem.W _L2 _cN _fJ
end _nZ
namespace _nZ
open Spec Rows PySem.W _L2 _cN _fJ
open Builtin Builtin.ObjectAttr
end _nZ
namespace _nZ
open Spec Rows PySem.W _L2 _cN _fJ
open Builtin Builtin.ObjectAttr
end _nZ
namespace _nZ
open Spec Rows PySem.W _L2 _cN _fJ
end _nZ
namespace _nZ
open Spec Rows PySem.W _L2 _cN _fJ
open Builtin Builtin.ObjectAttr
end _nZ
namespace _nZ
open Spec Rows PySem.W _L2 _cN _fJ
end _nZ
namespace _nZ
open Spec Rows PySem.W _L2 _cN _fJ
end _nZ
namespace _nZ
open Spec Rows PySem.W _L2 _cN _fJ
end _nZ
namespace _nZ
open Spec Rows PySem.W _L2 _cN _fJ
end _nZ
namespace _nZ
open Spec Rows PySem.W _L2 _cN _fJ
end _nZ
namespace _gE
open Spec Rows _L2 _cN _fJ _um
theorem j2{N P:UV}{a:Scope}(b:a.kind=.function:=by rfl)(c:a.isCoroutine=false:=by rfl)(d:a.isGenerator=false:=by rfl)(e:N.Nodup:=by decide +kernel)(f:N.take ↑P=P:=by rfl)(g:∀ x∈P,a.names.lookup x=⇑.local\/a.names.lookup x=⇑.cell:=by decide +kernel)(h:∀ y∈a.names,y.2≠.free:=by decide +kernel):rC N P a:=⟨b,c,d,e,f,g,h⟩
section
variable {P:Program} {w:World} {K:Frag} {mg:Ya} {zt:Heap}
theorem eZ{x c:Str}{a:Stmt}{f:Addr}{d:UV}{k:Nat}{e:Sp}(N:UV)(j:O9 K x c a f l)
  (m:∀ (g:Value) (A:Around) (n:List Env) (s:Shared) (H:Hp) (b:List V) (Q:VK) (E:XK),jr k (A.deeper (envOfC c (b9 a) s⁻¹ f g))->N.Nodup->e b H Q E->
   ∃ t,KZ (DG cQ P w K mg zt N c (b9 a) f g A n s H E).K0 (jI a) t/\t { nx:=λ_ o=>Q .gc o,rt:=Q } (_L2.start N b) H) (i:rC N d (b9 a):=by exact j2) (p:∀ b H Q E,e b H Q E->↑b=↑d:=by clean_wf):aZ P w K mg zt cQ (k+1) f l d e:=j.ok i p λq r u v y f z B h C=>m q r u v y f z B h i.nd C
end
section
variable {X:Cx}
theorem aY(i:Nat){x:Str}{e:Expr}{a:TE}{c b:Pos}(d:PE X e a)(g:X.N[i]?=⇑x:=by rfl)(h:Loc X.env.scope x:=by ac_rfl)(l:swapsWith e (some (.Name x b)) c.line X.env=pure false:=by rfl)(n:X.fn x=true\/X.env.scope.names.lookup x=⇑.local:=by bv_normalize)(p:X.N.Nodup:=by assumption) :
  PS X (.Assign [.Name x b] e c) (OE a (qC i)):=Xl p g h d l n
theorem bW(i:Nat){x:Str}{c:Pos}(a:X.N[i]?=⇑x:=by rfl)(b:Loc X.env.scope x:=by ac_rfl)(d:X.fn x=true\/X.env.scope.names.lookup x=⇑.local:=by bv_normalize)(g:X.N.Nodup:=by bv_omega):PG X (.Name x c) (qC i):=SN g a b d
def aR{r:R2}{a b:Expr}{ta d:TE}(g:Xy X r)(h:PE X a ta)(i:PE X b d)(l:Lm b:=by exact λ_ _=>rfl):PE X (.Subscript a b c) (c' r ta d):=sb g h i l
def fK{i:Expr}{a b:TE}(d:X.A.units+1<cLine)(g:PE X o a)(h:PE X i b)(l:X0 i:=by exact λ_ _=>rfl):PE X (.Subscript o i c) (V0 a b):=TX d g h l
theorem fR{e:Expr}{a:TE}{p:Pos}(d:X.mg "len"=none)(g:PE X e a)(h:Gl X "len":=by rfl)(b:starEach [e] X.env=(false,eval e X.env)::starEach [] X.env:=by rfl):PE X (.Call (.Name "len" p) [e] [] c) (fA (XC X.K) (OP a zf)):=cA DK h d PySem.boot_len (aa g ah (f:=b)) (by decide) (by decide) b rfl
variable {CX:ME} {j k:Nat} {f C fi:Addr} {fd:FuncData} {ps:UV} {sp:Sp} {E:XK} {m cn q:Str} {st:Stmt} {c j7:Pos} {e o:Expr} {es:List Expr} {ta:TE} {t:TA} {pl:Sem Bool}
def cL(b:PE X o ta)(g:ClsAt X.K X.mg cn C fi)(d:cM X.K C m q st ps f fd)(h:aZ X.prog X.w X.K X.mg X.zt CX k f fd ps sp)(i:jr j X.A)(l:nV CX X E)(n:PA X (e::es) t)(p:k<=j:=by first|decide|lia)
  (r:starEach (e::es) X.env=(false,eval e X.env)::starEach es X.env:=by rfl) (u:(backTo c (starEach es X.env)).any (·.1)=false:=by rfl)
  (v:eval (.Call (.Attribute o m j7) (e::es) [] c) X.env=(do
   let a ← eval o X.env
   standAt j7.atName
   let (f,first) ← holding [a] (getMethod a m pl)
   callWith c f first (backTo c (starEach (e::es) X.env)) (backToKw c (keywordEach [] X.env))):=by rfl) :
  PE X (.Call (.Attribute o m j7) (e::es) [] c) (Lf C m sp [] E ta t):=S9 b g.cl d.mt h (i.mono p) d.b .nil l n r u v
def fD(b:PE X o ta)(g:ClsAt X.K X.mg cn C fi)(d:cM X.K C m q st ps f fd)(h:aZ X.prog X.w X.K X.mg X.zt CX k f fd ps sp)(i:jr j X.A)(l:nV CX X E)(n:k<=j:=by first|decide|lia)
  (p:eval (.Call (.Attribute o m j7) [] [] c) X.env=(do
   let a ← eval o X.env
   standAt j7.atName
   let (f,first) ← holding [a] (getMethod a m pl)
   callWith c f first (backTo c (starEach [] X.env)) (backToKw c (keywordEach [] X.env))):=by rfl) :
  PE X (.Call (.Attribute o m j7) [] [] c) (Lf C m sp [] E ta zf):=OR b g.cl d.mt h (i.mono n) d.b .nil l p
end
def iz:0<=sizeLine:=by decide
def mh:1<=sizeLine:=by decide
def mj:2<=sizeLine:=by decide
def Qf:3<=sizeLine:=by decide
def D7:4<=sizeLine:=by decide
def Ye:5<=sizeLine:=by decide
def j9:6<=sizeLine:=by decide
theorem ux{x:V}{r:List V}:oU (x::r) 0=⇑x:=dh (j:=0) rfl
theorem vG{x y:V}{r:List V}:oU (x::y::r) 1=⇑y:=dh (j:=1) rfl
theorem Bt{x y z:V}{r:List V}:oU (x::y::z::r) 2=⇑z:=dh (j:=2) rfl
theorem Bu{x y z u:V}{r:List V}:oU (x::y::z::u::r) 3=⇑u:=dh (j:=3) rfl
theorem Uk{x y z u v:V}{r:List V}:oU (x::y::z::u::v::r) 4=⇑v:=dh (j:=4) rfl
theorem j'{x y z u v w:V}{r:List V}:oU (x::y::z::u::v::w::r) 5=⇑w:=dh (j:=5) rfl
end _gE
namespace _Ul
open Spec Rows _L2 _cN
end _Ul
namespace _gE
open Spec Rows _L2 _cN _fJ _um _Ul
def D8(v d:Addr):HO:=.ext λh=>h.IsItemsView v d
def Ni{a:Cx}:VP a "dict.items" (λx b H Q=>∃ (d:Addr) (c:List (eG × V)),x=↥d/\b=[]/\H d=⇑(.dK c)/\∀ v,H v=none->Q ↥v (aO H v (D8 v d))):=by
 intro j s l H x b v m Q I f g h;let⟨d,c,rfl,rfl,i,q⟩:=h;cases (show v=Value.ref d from f);cases g;let⟨z,g,h,j,f⟩:=Ab I.hok i;refine call_meetsIn PySem.F.slot_dict_items f.typeIs PySem.F.entry_dict_items (PySem.F.args_dict_items_1 _) (meets_dict_items (eU a.prog a.w) d g) ⟨⟨_,f⟩,?_⟩;refine⟨↥s⁻¹,_,I.laid (o:=D8 s⁻¹ d) (t':=s.toks) (λf o e=>Heap.get?_push_of_some _ e) (fF _) ⟨⟨_,Heap.get?_push_size _ rfl,V⟩,⟨_,Heap.get?_push_size _ rfl⟩,λf g ⟨o,e,r⟩ k=>⟨o,k o e,r⟩⟩,1,q _ (I.hok.fresh (fF _))⟩
def u6{d:Cx}{h:_L2.St}{H c:Hp}{s:Shared}{e:Heap}{j:Nat}(I:Inv d l h H s)(k:∀ b u,s.heap.get? b=⇑u->e.get? b=⇑u)(o:∀ b u,s.heap.get? b=⇑u->c b=H b)(a:∀ b u,H b=⇑u->c b=⇑u)(m:∀ b u,H b=none->c b=⇑u->gn d.prog d.w c e b u):Inv d l h c { s with heap:=e,toks:=j }:=by
 refine I.un ⟨λb u q _ _ _=>k b u q,λb u q _ _ _=>⟨u.slots,k b u q⟩,λb u q n _=>by rw[o b u q];exact n,λb u q _=>⟨u,k b u q⟩,λb i q=>a _ _ q,λb u i q=>a _ _ q,λb n q=>⟨#[],by rw[a _ _ q];simp⟩⟩ λb u f=>?_
 cases g:H b with
 | none=>exact m b u g f
 | some v =>
  rw[a b v g]at f;cases f;exact (I.hok b _ g).stay (λf v _ q=>k f v q) (λf q=>a _ _ q) λf i q=>a _ _ q
end _gE
namespace _Bs
open Spec Rows _L2 _cN _fJ _gE PySem.W
end _Bs
namespace _nZ
open Spec Rows PySem.W _L2 _cN _fJ
end _nZ
namespace _fO
open Spec Rows _L2 _cN
end _fO
namespace _fO
open Spec Rows _L2 _cN
end _fO
namespace _fO
open Spec Rows _L2 _cN
end _fO
namespace _fO
open Spec Rows _L2 _cN
end _fO
namespace _fO
open Spec Rows _L2 _cN
end _fO
namespace _fO
open Spec Rows _L2 _cN
end _fO
namespace _fO
open Spec Rows _L2 _cN
end _fO
namespace _fO
open Spec Rows _L2 _cN
end _fO
namespace _fO
open Spec Rows _L2 _cN
end _fO
namespace _fO
open Spec Rows _L2 _cN
end _fO
namespace _fO
open Spec Rows _L2 _cN
end _fO
namespace _gE
open Spec Rows _L2 _cN _fJ _um _fO
end _gE
namespace _cN
open Spec Rows _L2
open _fO
end _cN
namespace _gE
open Spec Rows _L2 _cN _fJ _um _Ul
def Wf(p:eG × V):Int × Int:=match p with
 | (.inl i,.int j)=>(i,j)
 | _=>(0,0)
theorem C2{d e:Type}{f:d->e->Prop}:∀ {b:List d} {c:List e},↑b=↑c->(∀ (j:Nat) (a:d) (p:e),b[j]?=⇑a->c[j]?=⇑p->f a p)->Paired f b c
 | [],[],_,_=>.nil
 | a::b,p::c,g,h=>.cons (h 0 a p rfl rfl) (C2 (Nat.succ.inj g) λj=>h (j+1))
theorem Ar{A:Cx}(hc:A.calm=true):jB A (.builtin "sorted") (λxs H Q=>∃ (v M:Addr) (k:List (eG × V)),xs=[↥v]/\H v=⇑(D8 v M)/\H M=⇑(.dK k)/\(∀ p∈k,∃ B r:Int,p=(.inl B,.int r))/\↑k<64/\
  ∀ (l:Addr) (h:WF) (t:Row) (f:Hp),H l=none->aJ H f->f l=⇑(.lst (h.map V.ref))->bx f h t->t.Perm (k.map Wf)->t.Pairwise _fO.Le->Q ↥l f):=by
 intro ay s σ H xs us Q I U F;let⟨v,M,k,rfl,hv,hd,hk,X9,ar⟩:=F;let⟨u,rfl,rx⟩:=U.one;cases (show u=Value.ref v from rx);let⟨P9,_⟩:=(show gn A.prog A.w H s.heap v (D8 v M) from I.hok v _ hv);let⟨z,hs,w,pR,dd⟩:=Ab I.hok hd;let⟨ep,hm⟩:=dd.dictAt;let a0:=↑pR;let sl:(64:Nat)<=sizeLine:=by decide
 refine Calls.call_function_entry kind_sorted plain_sorted entry_sorted (args_sorted1 _) ?_;unfold Builtin.«sorted»;refine wpAny_bind (m:=checkCount "sorted" 1 1 _) (wpAny_pure (wpAny_bind (PySem.W.kdx_collect (knd:=eU A.prog A.w) (kvs:=w) (ep:=ep) (I.ok.hd hc) P9 hm ∅ λn W c kp hl N=>wpAny_bind (wpAny_newList ?_ (by rw[b8];lia)))))
 let ag:∀ a∈c,∃ o,n.get? a=⇑o:=λa j=>by
  let⟨r,y⟩:=List.mem_iff_getElem?.mp j;let⟨g,b,x,D,G,e⟩:=N.pairs r a y;exact⟨_,e⟩
 let pj:Paired (λa (p:Int × Int)=>_fO.iN n ↥a p) c (k.map Wf):=by
  refine C2 (by rw[b8];lia) λr a p y q=>?_;let⟨g,b,x,D,G,e⟩:=N.pairs r a y;let⟨O,J,R⟩:=nL pR D;let⟨B,m,rfl⟩:=hk O (mC J);let⟨S,T⟩:=R;obtain⟨C,rfl⟩:∃ i,x=.int m i:=T;have L:xG b g=true:=G;rw[← (show Sum.inl B=b from S)]at L;rw[kB,J]at q;cases q;rcases fH L with ⟨X,i,d,rfl⟩|⟨X,i,d,rfl⟩
  ·cases d;exact⟨a,i,C,1,_,e,1,0,1⟩
  ·cases d
 generalize D:n.objs.size=l;let O:(n.push (seqObj "h" (c.map Value.ref).toArray 0)).get? l=⇑(seqObj "h" (c.map Value.ref).toArray 0):=by rw[← D];exact Heap.get?_push_size _ rfl
 let R:∀ b o,n.get? b=⇑o->(n.push (seqObj "h" (c.map Value.ref).toArray 0)).get? b=⇑o:=λb o e=>Heap.get?_push_of_some _ e;generalize av:n.push (seqObj "h" (c.map Value.ref).toArray 0)=g at O R
 let X:_fO.JB g (c.map Value.ref) (k.map Wf):=by
  let go:∀ {c:WF} {q:List (Int × Int)},Paired (λa (p:Int × Int)=>_fO.iN n ↥a p) c q->_fO.JB g (c.map Value.ref) q:=by
   intro c
   induction c with
   | nil=>intro q z;cases z;exact .nil
   | cons a c G =>
    intro q z
    cases z with
    | cons d y =>
     let⟨x,i,u,m,o,e,U⟩:=d;exact .cons ⟨x,i,u,m,o,R _ _ e,U⟩ (G y)
  exact go pj
 let aw:∀ a∈c,∃ p,_fO.iN g ↥a p:=λa j=>_fO.JB.mem X (List.mem_map.mpr ⟨a,j,1⟩);obtain⟨d,ai⟩:∃ d:Addr->Int × Int,∀ a,d a=_fO.ic g ↥a:=⟨_,λ_=>rfl⟩
 let ax:∀ a∈c,∃ S C:Tok,IsTup g a (List.toArray [.int (d a).1 S,.int (d a).2 C]):=λa j=>by
  let⟨p,q⟩:=aw a j;let⟨x,i,u,m,tt⟩:=id q;cases m;rw[ai,_fO.kU q];exact⟨i,u,tt⟩
 show wpAny _ _ _ _ _ { s with heap:=g,toks:=W };refine wpAny_bind (wpAny_holding (wpAny_call_entry slot_list_sort ⟨_,O,1⟩ entry_list_sort (_fO.pS (s:={ s with heap:=g,toks:=W }) O X (by rw[b8];lia) λi pm up=>⟨Y,wpAny_pure ⟨Y,?_⟩⟩) (args_list_sort _)));let⟨aA,aH⟩:=sortedHeap_at (out:=(arrOf i).map (·.2)) O;let J:=Array.perm_iff_toList_perm.mp pm;rw[pairsOf_toList]at J
 let ak:∀ x∈(arrOf i).toList,∃ a∈c,x.2=↥a:=λx q=>by
  let⟨y,G⟩:=_fO.rM (J.mem_iff.mp q);let⟨a,j,m⟩:=List.mem_map.mp y;exact⟨a,j,by rw[G,m]⟩
 let Uc:((arrOf i).map (·.2)).toList=((arrOf i).toList.map λx=>LM x.2).map Value.ref:=by
  rw[Array.toList_map,nE];refine uN λx q=>?_;let⟨a,_,e⟩:=ak x q;show x.2=Value.ref (LM x.2);rw[e];rfl
 let kx:∀ x∈(arrOf i).toList,_fO.ic g x.1=d (LM x.2):=λx q=>by
  let⟨y,G⟩:=_fO.rM (J.mem_iff.mp q);let⟨a,j,m⟩:=List.mem_map.mp y;rw[ai,G,← m];rfl
 let km:((arrOf i).toList.map λx=>LM x.2).map d=(arrOf i).toList.map λx=>_fO.ic g x.1:=by
  rw[nE];exact uN λx q=>(kx x q).symm
 let ug:∀ {w:WP} {t:Row},_fO.JB g w t->(w.zip w).map (λx=>_fO.ic g x.1)=t:=by
  intro w
  induction w with
  | nil=>intro t F;cases F;rfl
  | cons v w G =>
   intro t F
   cases F with
   | cons m g=>rw[List.zip_cons_cons,iu,G g,_fO.kU m]
 let JD:(((arrOf i).toList.map λx=>LM x.2).map d).Perm (k.map Wf):=by
  rw[km];let y:=J.map λx=>_fO.ic g x.1;rw[ug X]at y;exact y
 let ZH:(((arrOf i).toList.map λx=>LM x.2).map d).Pairwise _fO.Le:=by
  rw[km,List.pairwise_iff_getElem];intro B r w y F;rw[b8,Array.length_toList]at w y;let m:=up B r (gV F) (by rw[← pm.size_eq];exact y);unfold _fO.kp at m;rw[getElem?_pos _ B w,getElem?_pos _ r y]at m;simpa using m
 let bl:↑((arrOf i).toList.map λx=>LM x.2)=↑k:=by rw[b8,J.length_eq,List.length_zip,b8,Nat.min_self];lia
 generalize w:(arrOf i).toList.map (λx=>LM x.2)=h at Uc bl JD ZH
 let bm:∀ b∈h,b∈c:=λb T=>by
  rw[← w]at T;let⟨x,q,rfl⟩:=List.mem_map.mp T;let⟨a,j,e⟩:=ak x q;rw[e];exact j
 let al:∀ {b:Addr},b∈c->b<l:=λT=>by
  let⟨o,m⟩:=ag _ T;rw[← D];exact Heap.lt_size m
 let a:=I.hok.kept kp
 let am:∀ b o,n.get? b=⇑o->(sortedHeap (g) l (c.map Value.ref) ((arrOf i).map (·.2))).get? b=⇑o:=λb o e=>by
  let G:b<l:=by rw[← D];exact Heap.lt_size e
  rw[sortedHeap_old (i9 G) (by rw[← av,Heap.size_push,D];exact Nat.lt_succ_of_lt G)];exact R b o e
 let ab:∀ {b:Addr} {u:HO},H b=⇑u->b∉c/\b≠l:=λ{b u} e=>⟨λm=>absurd (I.hok.lt e) (Nat.not_lt.mpr (gV (N.above b m))),λy=>by have:=a.lt e;rw[D,y]at this;exact Nat.lt_irrefl _ this⟩
 let aS:H l=none:=by
  cases e:H l with
  | none=>rfl
  | some u=>exact absurd rfl (ab e).2
 obtain⟨f,eH⟩:∃ f:Hp,∀ b,f b=if b=l then some (.lst (h.map V.ref)) else if b∈c then some (.tup [.int (d b).1,.int (d b).2]) else H b:=⟨_,λ_=>rfl⟩;let ho:∀ b,b≠l->b∉c->f b=H b:=λb ae m=>by rw[eH,if_neg ae,if_neg m]
 let an:f l=⇑(.lst (h.map V.ref)):=by rw[eH,if_pos rfl]
 let ap:∀ b∈c,f b=⇑(.tup [.int (d b).1,.int (d b).2]):=λb m=>by rw[eH,if_neg (i9 (al m)),if_pos m]
 let aq:aJ H f:=λb u e=>by rw[ho b (ab e).2 (ab e).1];exact e
 let JI:bx f h (h.map d):=by
  let go:∀ L:List Addr,(∀ b∈L,b∈h)->bx f L (L.map d):=by
   intro L
   induction L with
   | nil=>intro _;exact .nil
   | cons b L G=>intro z;exact .cons (ap b (bm b (z b qx))) (G λy a=>z y (j0 _ a))
  exact go h λ_ z=>z
 refine⟨↥l,f,u6 (s:=s) (j:=W) I (λb o e=>am b o (kp b o e)) (λb o e=>?_) aq (λb u ae e=>?_),1,ar l h _ f aS aq an JI JD ZH⟩
 ·let G:b<l:=by rw[← D];exact Heap.lt_size (kp b o e)
  exact ho b (i9 G) λm=>absurd (Heap.lt_size e) (Nat.not_lt.mpr (gV (N.above b m)))
 ·by_cases y:b=l
  ·subst y;rw[an]at e;cases e;exists by rw[b8];lia,_,aA,wQ h;rw[aH,← Uc]
  ·by_cases m:b∈c
   ·rw[ap b m]at e;cases e;let⟨S,C,o,a,g2,n',g3⟩:=ax b m;let⟨c,G⟩:=ag b m;let L:=R _ _ G;rw[a]at L;cases L;exact⟨(by show 2<=sizeLine;decide),[.int (d b).1 S,.int (d b).2 C],.cons ⟨S,1⟩ (.cons ⟨C,1⟩ .nil),o,am _ _ G,g2,n',g3⟩
   ·rw[ho b y m,ae]at e;cases e
end _gE
namespace _fO
open Spec Rows _L2 _cN
end _fO
namespace _gE
open Spec Rows _L2 _cN _fJ _um _Ul
end _gE
set_option Elab.async false
set_option linter.all false
set_option maxRecDepth 100000
namespace _gE
open _L2 _cN _fJ _um _X8
structure ka(mg:Ya):Prop where
 fE:mg "len"=none
 jv:mg "h"=none
 LQ:mg "s"=none
 Wg:mg "int"=none
 JJ:mg "bool"=none
 Wh:mg "str"=none
 jO:mg "y"=none
 u':mg "zip"=none
 eE:mg "isinstance"=none
 Qg:mg "sum"=none
 Gq:mg "min"=none
 As:mg "max"=none
 va:mg "all"=none
 Gr:mg "sorted"=none
 n9:∀ f,mg "size"=⇑↥f->mg "size_spans"=⇑↥f
 qU:∀ f,mg "shown"=⇑↥f->mg "shown_weave"=⇑↥f
section
variable {P:Program} {w:World} {K:Frag} {mg:Ya} {zt:Heap}
structure kb(mg:Ya):Prop where
 s:∃ t,mg "MOST_SHEETS"=⇑(.int 40 t)
 w:∃ t,mg "MOST_WEIGHT"=⇑(.int 200 t)
 h:∃ t,mg "HIDDEN"=⇑(.str "#" t)
structure Ds(K:Frag)(mg:Ya)(ef:Nat->Addr)(eN:Nat->FuncData)(C CS CW CB CT CD:Addr):Prop where
 T:ka mg
 G:kb mg
 aM:ClsAt K mg "Library" C (ef 61)
 dF:ClsAt K mg "Shelf" CS (ef 42)
 iy:ClsAt K mg "Well" CW (ef 56)
 jw:ClsAt K mg "Blots" CB (ef 15)
 C3:ClsAt K mg "Ties" CT (ef 51)
 pT:ClsAt K mg "Dues" CD (ef 52)
 l9:gD K CS "D"
 oF:gD K CS "z"
 uc:gD K CW "K"
 rD:gD K CW "O"
 mE:gD K CW "Y"
 kF:gD K CB "stains"
 DM:gD K CT "given"
 DN:gD K CT "pairs"
 zO:gD K CD "sums"
 sZ:gD K C "E"
 gF:gD K C "B"
 qQ:gD K C "H"
 DO:gD K C "R"
 zP:gD K C "dues"
 FT:gD K C "book"
 kc:cB K mg "_law_src" Cp ["m"] (ef 0) (eN 0)
 uM:cB K mg "_law_next" zl ["b","I"] (ef 1) (eN 1)
 kf:cB K mg "_law_whole" xP ["r"] (ef 2) (eN 2)
 Um:cB K mg "_law_same" tX ["r","J"] (ef 3) (eN 3)
 Yh:cB K mg "plain" Pb ["j"] (ef 4) (eN 4)
 Yi:cB K mg "size" Pc ["j"] (ef 5) (eN 5)
 ZL:cB K mg "check_places" sJ zl5 (ef 6) (eN 6)
 Yj:cB K mg "pieces" Lo zl5 (ef 7) (eN 7)
 kh:cB K mg "part" VQ zl5 (ef 8) (eN 8)
 gA:cB K mg "addresses" tY ["j"] (ef 9) (eN 9)
 Yk:cB K mg "spread" Lp ["j"] (ef 10) (eN 10)
 Yl:cB K mg "first_reaching" pJ ["L","i"] (ef 11) (eN 11)
 kk:cB K mg "within" Lq ["L","t"] (ef 12) (eN 12)
 kr:cB K mg "left_over" zm ["i","o","L"] (ef 13) (eN 13)
 Uo:cB K mg "without" zo ["j","6"] (ef 14) (eN 14)
 kt:cM K CB "v" "Blots.__init__" pK Fc (ef 15) (eN 15)
 kv:cM K CB "blot" "Blots.blot" xQ Z4 (ef 16) (eN 16)
 kw:cM K CB "lift" "Blots.lift" xR Z4 (ef 17) (eN 17)
 kz:cM K CB "hides" "Blots.hides" uT zl2 (ef 18) (eN 18)
 kS:cM K CB "j" "Blots.row" zq Fc (ef 19) (eN 19)
 Ym:cB K mg "windows" zu ["l"] (ef 20) (eN 20)
 Yn:cB K mg "below" Jd ["n","G"] (ef 21) (eN 21)
 k0:cB K mg "way_between" uU ["n","i","goal"] (ef 22) (eN 22)
 k':cB K mg "ring" VR zl6 (ef 23) (eN 23)
 lj:cB K mg "item_weight" uV ["Z","0"] (ef 24) (eN 24)
 lq:cB K mg "weights_below" mU ["n","G"] (ef 25) (eN 25)
 Yo:cB K mg "item_row" Cq ["Z","A"] (ef 26) (eN 26)
 Qh:cB K mg "views_below" o7 ["n","G"] (ef 27) (eN 27)
 Qi:cB K mg "shown" Pd zl6 (ef 28) (eN 28)
 lw:cB K mg "goes_on" FP ["one","6"] (ef 29) (eN 29)
 Nj:cB K mg "plain_items" uW ["l"] (ef 30) (eN 30)
 Gs:cB K mg "inked" Je ["j"] (ef 31) (eN 31)
 Yp:cB K mg "dealt" Pe ["l","A"] (ef 32) (eN 32)
 Yq:cB K mg "put_among" zw ["l","A","C","others"] (ef 33) (eN 33)
 Uq:cB K mg "put_items" zx ["n","g","C","l"] (ef 34) (eN 34)
 Yr:cB K mg "parted" Lr ["l","A","i","o"] (ef 35) (eN 35)
 lx:cB K mg "cut_items" zy ["n","g","i","o"] (ef 36) (eN 36)
 lz:cB K mg "moved_items" uX ["n","g","i","o","to"] (ef 37) (eN 37)
 lM:cB K mg "fixed_items" uY zl6 (ef 38) (eN 38)
 Ur:cB K mg "ink_words" tZ ["j"] (ef 39) (eN 39)
 lQ:cB K mg "shown_deed" xS ["V"] (ef 40) (eN 40)
 Ys:cB K mg "changed" FQ ["state","g","l"] (ef 41) (eN 41)
 l5:cM K CS "v" "Shelf.__init__" pM Fc (ef 42) (eN 42)
 Qj:cM K CS "now" "Shelf.now" zz Fc (ef 43) (eN 43)
 Yt:cM K CS "many" "Shelf.many" xT Fc (ef 44) (eN 44)
 l':cM K CS "step" "Shelf.step" xU ["c","1"] (ef 45) (eN 45)
 Gu:cM K CS "check_sheet" "Shelf.check_sheet" mW WX (ef 46) (eN 46)
 ma:cM K CS "check_moment" "Shelf.check_moment" lN ["c","P"] (ef 47) (eN 47)
 mc:cM K CS "rows_then" "Shelf.rows_then" j8 ["c","P"] (ef 48) (eN 48)
 Ea:cM K CS "n" "Shelf.rows" xV Fc (ef 49) (eN 49)
 FX:cM K CS "j" "Shelf.row" zA WX (ef 50) (eN 50)
 md:cM K CT "v" "Ties.__init__" qG Fc (ef 51) (eN 51)
 me:cM K CD "v" "Dues.__init__" qH Fc (ef 52) (eN 52)
 Yu:cM K CD "due" "Dues.due" Cr ["c","q"] (ef 53) (eN 53)
 mf:cM K CD "pay" "Dues.pay" Cs ["c","q","many"] (ef 54) (eN 54)
 mi:cM K CD "total" "Dues.total" xW Fc (ef 55) (eN 55)
 mm:cM K CW "v" "Well.__init__" qI Fc (ef 56) (eN 56)
 Nk:cM K CW "size" "Well.size" zB Fc (ef 57) (eN 57)
 mn:cM K CW "pour" "Well.pour" zC ["c","q","text"] (ef 58) (eN 58)
 mo:cM K CW "holds" "Well.holds" qJ Z4 (ef 59) (eN 59)
 mr:cB K mg "check_weave" uZ zl6 (ef 60) (eN 60)
 mu:cM K C "v" "Library.__init__" nJ Fc (ef 61) (eN 61)
 Nl:cM K C "enter" "Library.enter" qK ["c","V","1"] (ef 62) (eN 62)
 Gv:cM K C "change" "Library.change" pN ["c","V","g","l"] (ef 63) (eN 63)
 mx:cM K C "many" "Library.many" sL Fc (ef 64) (eN 64)
 my:cM K C "begin" "Library.begin" qL ["c","V","l"] (ef 65) (eN 65)
 Yv:cM K C "5" "Library.fresh" qM Fc (ef 66) (eN 66)
 vb:cM K C "ink" "Library.ink" vc Fc (ef 67) (eN 67)
 Yw:cM K C "check_held" "Library.check_held" lO Z4 (ef 68) (eN 68)
 Yx:cM K C "pour" "Library.pour" sM ["c","q","text"] (ef 69) (eN 69)
 mB:cM K C "put" "Library.put" vd ["c","g","C","j"] (ef 70) (eN 70)
 Qk:cM K C "shown" "Library.shown" qN WX (ef 71) (eN 71)
 mI:cM K C "cut" "Library.cut" ve ["c","g","i","o"] (ef 72) (eN 72)
 mM:cM K C "quote" "Library.quote" qO ["c","7","C","8","i","o"] (ef 73) (eN 73)
 F':cM K C "j" "Library.row" vf WX (ef 74) (eN 74)
 mN:cM K C "window" "Library.window" pO ["c","7","C","8"] (ef 75) (eN 75)
 mV:cM K C "fix" "Library.fix" vg WX (ef 76) (eN 76)
 mZ:cM K C "move" "Library.move" sN ["c","g","i","o","to"] (ef 77) (eN 77)
 Yy:cM K CW "check_address" "Well.check_address" lP zl2 (ef 78) (eN 78)
 m3:cM K CW "sign" "Well.sign" zD zl2 (ef 79) (eN 79)
 m4:cM K CW "q" "Well.hand" zE zl2 (ef 80) (eN 80)
 nf:cM K C "veiled" "Library.veiled" lH ["c","j","veil"] (ef 81) (eN 81)
 Yz:cM K C "text" "Library.text" sO WX (ef 82) (eN 82)
 no:cM K C "now" "Library.now" u9 Fc (ef 83) (eN 83)
 np:cM K CW "poured" "Well.poured" vh ["c","q"] (ef 84) (eN 84)
 YA:cM K C "check_own" "Library.check_own" mY zl4 (ef 85) (eN 85)
 nD:cM K C "blot" "Library.blot" sP zl4 (ef 86) (eN 86)
 nR:cM K C "lift" "Library.lift" sQ zl4 (ef 87) (eN 87)
 nU:cM K C "hidden" "Library.hidden" pP Fc (ef 88) (eN 88)
 nX:cM K C "poured_by" "Library.poured_by" mX Z4 (ef 89) (eN 89)
 n6:cM K C "read" "Library.read" sR WX (ef 90) (eN 90)
 n7:cM K C "due" "Library.due" vj ["c","q"] (ef 91) (eN 91)
 oa:cM K C "paid" "Library.paid" sS Fc (ef 92) (eN 92)
 oe:cB K mg "_law_sign" zF ["b","2"] (ef 93) (eN 93)
 og:cB K mg "_law_text" t6 ["b","M"] (ef 94) (eN 94)
 Us:cB K mg "_law_world" qP [] (ef 95) (eN 95)
 Nm:cB K mg "_law_keep" zG ["a","d"] (ef 96) (eN 96)
 YB:cB K mg "_law_swap" zH ["d","e","_law_entries"] (ef 97) (eN 97)
 on:cB K mg "_law_spell" xX ["9"] (ef 98) (eN 98)
 Gw:cB K mg "_law_show" zI zl7 (ef 99) (eN 99)
 Wi:cB K mg "_law_reached" sU zl7 (ef 100) (eN 100)
 Ql:cB K mg "_law_pieces" vm ["d","w"] (ef 101) (eN 101)
 Gx:cB K mg "_law_put" Ct ["d","e","W","_law_new"] (ef 102) (eN 102)
 Qm:cB K mg "_law_cut" Cu ["d","e","x","T"] (ef 103) (eN 103)
 Qn:cB K mg "_law_weighed" sV zl7 (ef 104) (eN 104)
 Qo:cB K mg "_law_row_of" vo ["k"] (ef 105) (eN 105)
 Wj:cB K mg "_law_fits" t7 zl7 (ef 106) (eN 106)
 Wk:cB K mg "_law_after" xY ["a","p"] (ef 107) (eN 107)
 vk:cM K C "back" "Library.back" sW ["c","g","P"] (ef 108) (eN 108)
 Wl:cB K mg "_law_done" zJ ["f","p"] (ef 109) (eN 109)
 Wm:cB K mg "_law_ink_row" sX zl8 (ef 110) (eN 110)
 Wn:cB K mg "_law_move_by" sY ["b","e","_law_room"] (ef 111) (eN 111)
 Wq:cB K mg "_law_draw" zK zl8 (ef 112) (eN 112)
 Wr:cB K mg "_law_deed" zL zl9 (ef 113) (eN 113)
 Qp:cB K mg "_law_pour" ua zl9 (ef 114) (eN 114)
 Ws:cB K mg "_law_fresh" xZ ["a","f"] (ef 115) (eN 115)
 Wu:cB K mg "_law_begin" ya zl9 (ef 116) (eN 116)
 Wv:cB K mg "_law_read" zM ["a","k"] (ef 117) (eN 117)
 Ww:cB K mg "_law_hide" pA zl9 (ef 118) (eN 118)
 Wx:cB K mg "_law_paid_right" kg ["a","f","N"] (ef 119) (eN 119)
def gL{b:Type}:List b->b->Nat->b
 | [],d,_=>d
 | a::_,_,0=>a
 | _::l,d,n+1=>gL l d n
structure YC where
 mk ::
 (cX:Program)
 (bf:World)
 (bV:Frag)
 (cW:Ya)
 (cV:Heap)
 (dQ:Nat->Addr)
 (dR:Nat->FuncData)
 (eK:Addr)
 (cH:Addr)
 (cT:Addr)
 (dB:Addr)
 (yv:Addr)
 (jW:Addr)
 (YD:Addr)
 (YE:FuncData)
def YC.Ok(e:YC):Prop:=Ds e.bV e.cW e.dQ e.dR e.eK e.cH e.cT e.dB e.yv e.jW->O9 e.bV "law" "law" ML e.YD e.YE->aZ e.cX e.bf e.bV e.cW e.cV cQ 48 e.YD e.YE ["m"] (FO e.bV)
theorem vp:Nonempty YC:=⟨⟨Classical.choice inferInstance,⟨λ_ _=>0,{ strHash:=λ_=>0,shareClass:=λ_=>0,mergeTok:=id,idOf:=λ_=>0,idOfShared:=λ_ _=>0,followText:=λ_=>false,idOfImm:=λ_=>0 }⟩,[],λ_=>none,Classical.choice inferInstance,λ_=>0,λ_=>Classical.choice inferInstance,0,0,0,0,0,0,0,Classical.choice inferInstance⟩⟩
noncomputable def Ir:YC:=@Classical.epsilon YC vp λe=>¬ e.Ok
theorem vr(h:Ir.Ok)(e:YC):e.Ok:=Classical.byContradiction λn=>Classical.epsilon_spec (p:=λe=>¬ YC.Ok e) ⟨e,n⟩ h
noncomputable def cX:Program:=Ir.cX
noncomputable def bf:World:=Ir.bf
noncomputable def bV:Frag:=Ir.bV
noncomputable def cW:Ya:=Ir.cW
noncomputable def cV:Heap:=Ir.cV
noncomputable def dQ:Nat->Addr:=Ir.dQ
noncomputable def dR:Nat->FuncData:=Ir.dR
noncomputable def eK:Addr:=Ir.eK
noncomputable def cH:Addr:=Ir.cH
noncomputable def cT:Addr:=Ir.cT
noncomputable def dB:Addr:=Ir.dB
noncomputable def yv:Addr:=Ir.yv
noncomputable def jW:Addr:=Ir.jW
noncomputable def YD:Addr:=Ir.YD
noncomputable def YE:FuncData:=Ir.YE
abbrev bS:Prop:=Ds bV cW dQ dR eK cH cT dB yv jW
theorem JK:‹(1,0,["m"],(VU bV))›:=λD=>by
 specialize eZ ["m"] D.kc.F;let⟨b,a,rfl,c,k⟩:=h;exists _,#v[aK (bM #[fP gK rfl D.T.jv tR #[jb l6 (pv 0) nH (jj az)],az,az,az])]
 rfl'
 refine⟨Y,Y,b,Y,c,λp g=>?_⟩;refine⟨p,Y,.inl (bJ.of af),λc d=>?_⟩;refine⟨D7,λl b=>?_⟩;let⟨i,j⟩:=Px a none (some 63);let e:c≠l:=aB (H:=aO (aO H p _) c _) af b;let f:aJ H (aO H p (.lst (kL (a.map V.int) none (some 63)))):=ao g _;let g:=f.trans (ao d (.lst (kL (a.map V.int) none (some 63))));refine k l c _ ⟨e,i,0,0,(1),af,?_,by decide,by decide,by decide⟩ (g.trans (ao b _)) (g.free b) (f.free d);rw[aN e,af,j]
theorem fN:‹(1,1,["b","I"],uf)›:=λD=>by
 specialize eZ ["b","I","_law_cell","_law_digit"] D.uM.F;let⟨l,j,m,rfl,S,q,I,k⟩:=h;exists _,#v[wB (c:=XR) (bN (aV gJ (aR bK (pv 0) az) az (bz _)) #v[aY 2 az,wB (c:=XS) (bN (aV kJ (aR bK (pv 0) az) (fR D.T.fE (aR bK (pv 0) az)) (bz _)) #v[aY 2 (aR bK (aR bK (pv 0) az) (aR bK (pv 0) az)),mS (bG dY (aR bK (pv 0) az) az) (oY (pv 0) az jH)] bu) ?y',mS (bG y9 (bG dY (bG dY (bG IP (aR bK (pv 0) az) az) (bG y9 (pv 2) az)) az) az) (oY (pv 0) az jH),bN (aV VM (pv 2) (bG IQ az az) (bz _)) #v[mS (pv 2) (oY (pv 0) az jH)] bu] bu) ?t',bN (aV za (aR bK (pv 0) az) az (bz _)) #v[aY 3 (bG y9 (aR bK (pv 0) az) (pv 1)),mS (bG zQ (aR bK (pv 0) az) (pv 1)) (oY (pv 0) az jH),aK (pv 3)] bu,aK (bG y9 (bG zQ (bG y9 (bG IP (aR bK (pv 0) az) az) az) az) (pv 1))]
 rfl'
 case y' =>
  rintro D z H ⟨l,j,m,rfl,⟨b,f,i,g,r,a,d,n,o,p⟩,k⟩;exists Y,l,Q,V,bJ.of a,XQ,Y,l,Q,V,bJ.of a,iq,j,Y,.inl (bJ.of d),Z,Y;refine dO (λu=>?_) (λu=>?_)
  ·let s:i<(↑f:Int):=by
    let c:=of_decide_eq_true u;rwa [b8]at c
   let⟨v,w⟩:=Tv n s;exists Y,l,Q,V,bJ.of a,iq,Y,l,Q,V,bJ.of a,XQ,j,Q,V,bJ.of d,w;exists Y,l,Q,V,bJ.of a,XQ,Z,Y,l,E,(1),V,a,1;exact k v _ ⟨b,f,i+1,g,r,af,by rw[aN b];exact d,by lia,o,p⟩ λe c=>aN c
  ·exact k 7 H ⟨b,f,i,g,r,a,d,n,o,p⟩ λe _=>rfl
 case t' =>
  rintro D z H ⟨l,j,m,rfl,S,k⟩;let⟨b,f,i,g,r,a,d,n,o,p⟩:=id S;exists Y,l,Q,V,bJ.of a,Tq,Z,Y;refine dO (λw=>?_) (λw=>?_)
  ·refine⟨l,j,m,1,S,λv J x s=>?_⟩;let⟨_,y,z,L,B,C,F,G,M,N⟩:=id x;exists Y,l,Q,V,bJ.of C,iw,Z,.inl ⟨by lia,by lia⟩,Y,Z,(by show (0:Int)<998244353;decide),Z,Z,Z,(by show (0:Int)<2147483647;decide),Y,l,E,3,V,C,1;exists Y,Z,⟨by decide,by decide,by decide⟩,Z,Y;let C:0<=(B*48271+v % 998244353+1) % 2147483647:=Int.emod_nonneg _ (by decide);let t:(B*48271+v % 998244353+1) % 2147483647<2147483647:=Int.emod_lt_of_pos _ (by decide);refine dO (λu=>?_) (λu=>?_)
   ·exists Y,Y,l,E,2,V,af,1;refine k _ _ ⟨b,y,z,v,_,af,?_,G,C,t⟩ λe c=>?_
    ·rw[aN b,aN b];exact F
    ·rw[aN c,aN c];exact s e c
   ·refine k _ _ ⟨b,y,z,L,_,af,?_,G,C,t⟩ λe c=>?_
    ·rw[aN b];exact F
    ·rw[aN c];exact s e c
  ·exact k none H S λe _=>rfl
 refine⟨l,j,m,1,S,λv J x s=>?_⟩;let⟨b,f,i,g,r,a,d,n,o,p⟩:=x;exists Y,l,Q,V,bJ.of a,Tq,Z,Y;refine dO (λw=>?_) (λw=>?_)
 ·exists Y,l,Q,V,bJ.of a,Tq,Y,Z,q;exists Y,l,Q,V,bJ.of a,Tq,Y,Z,⟨q,I⟩,Y,l,E,2,V,a,1;exists Y;refine k (g % m) _ (Int.emod_nonneg _ ∅) (Int.emod_lt_of_pos _ q) ⟨b,f,i,g / m,r,af,?_,n,o,p⟩ λe c=>?_
  ·rw[aN b];exact d
  ·rw[aN c];exact s e c
 ·exists Y,l,Q,V,bJ.of a,iw,Z,.inl ⟨by lia,by lia⟩,Z,(by show (0:Int)<2147483399;decide),Z,⟨by decide,by decide⟩,Y,Z,q;exact k _ _ (Int.emod_nonneg _ ∅) (Int.emod_lt_of_pos _ q) ⟨b,f,i,g,r,a,d,n,o,p⟩ s
theorem Gy:rC ["r","J","_law_one","_law_other"] ["r","J"] (b9 tX):=j2
theorem Eb:‹(1,2,["r"],Ly)›:=λD=>by
 specialize eZ ["r"] D.kf.F;let⟨i,rfl,k⟩:=h;exists _,#v[aK (oX (cA ff rfl D.T.eE yo #[0,pQ rfl D.T.Wg PyProof.Rows.boot_int]) (qA (Xg (cA ff rfl D.T.eE yo #[0,pQ rfl D.T.JJ PyProof.Rows.boot_bool]))))]
 rfl'
 exact⟨Y,Q,Y,kK.int i,i5 bV,Y,iK ⟨Y,Q,Y,kK.int i,i4 bV,Y,k⟩⟩
def Bv(D:bS){n:Nat}(o:aZ cX bf bV cW cV cQ 1 (dQ 2) (dR 2) ["r"] Ly)(p:aZ cX bf bV cW cV cQ (n+1) (dQ 3) (dR 3) ["r","J"] (zT n)):aZ cX bf bV cW cV cQ (n+2) (dQ 3) (dR 3) ["r","J"] (zT (n+1)):=by
 refine D.Um.F.ok Gy (λq H Q E h=>?_) (λG I J s H q Q E k h=>?_)
 ·let⟨x,y,rfl,_⟩:=h;rfl
 let⟨x,y,rfl,h,l⟩:=h;exists _,#v[bN (DA (IG (pv 1))) #v[aK (OD (IG (pv 0)))] bu,bN (jq (cA ff rfl D.T.eE yo #[1,pQ rfl D.T.JJ PyProof.Rows.boot_bool])) #v[aK (oX (cA ff rfl D.T.eE yo #[0,pQ rfl D.T.JJ PyProof.Rows.boot_bool]) (qA (kC eV (pv 0) (pv 1) (bz _))))] bu,bN (jq (cA ff rfl D.T.eE yo #[1,pQ rfl D.T.Wg PyProof.Rows.boot_int])) #v[aK (oX (aF D.kf o k #[0]) (qA (kC eV (pv 0) (pv 1) (bz _))))] bu,bN (jq (cA ff rfl D.T.eE yo #[1,pQ rfl D.T.Wh PyProof.Rows.boot_str])) #v[aK (oX (cA ff rfl D.T.eE yo #[0,pQ rfl D.T.Wh PyProof.Rows.boot_str]) (qA (kC eV (pv 0) (pv 1) (bz _))))] bu,bN (PW.pt (FA (aV OL (cA ff rfl D.T.eE yo #[1,pQ rfl D.T.jv tR]) (cA ff rfl D.T.eE yo #[0,pQ rfl D.T.jv tR]) (bz _)) (DB (aV OL (cA ff rfl D.T.eE yo #[1,pQ rfl D.T.LQ PyProof.Rows.boot_tuple]) (cA ff rfl D.T.eE yo #[0,pQ rfl D.T.LQ PyProof.Rows.boot_tuple]) (bz _))))) #v[aK nG] bu,bN (aV OL (fR D.T.fE (pv 0)) (fR D.T.fE (pv 1)) (bz _)) #v[aK nG] bu,eO PassesOwn.never rfl (XN rfl D.T.u' #[0,1]) (j6 (n:=2) rfl (bR (bW 2) (bR (bW 3) gB))) #v[bN (iY (jq (aF D.Um p k #[2,3]))) #v[aK nG] bu],aK nG]
 rfl'
 let e:=l H (aJ.refl H);rcases h with ⟨r,rfl⟩|⟨a,g,j,t,w,rfl,rfl,d,b,m,A⟩
 ·cases x with
  | gc =>
   refine⟨Y,Y,dO (λ_=>?_) (λc=>absurd (decide_eq_true rfl) c)⟩;exact⟨Y,tt rfl e⟩
  | bl v =>
   refine⟨Y,Y,dO (λc=>absurd (of_decide_eq_true c) (λz=>nomatch z)) (λ_=>?_)⟩;refine⟨Y,Q,Y,kK.bl v,i3 bV,Y,iK ?_⟩;exact⟨Y,Q,Y,kK.bl v,i3 bV,Y,iK ⟨Y,Y,1,tt rfl e⟩⟩
  | int i =>
   refine⟨Y,Y,dO (λc=>absurd (of_decide_eq_true c) (λz=>nomatch z)) (λ_=>?_)⟩;refine⟨Y,Q,Y,kK.int i,i4 bV,Y,fT ?_⟩;refine⟨Y,Q,Y,kK.int i,i5 bV,Y,iK ?_⟩;exact⟨Y,i,1,Y,iK ⟨Y,Y,1,tt rfl e⟩⟩
  | str v =>
   refine⟨Y,Y,dO (λc=>absurd (of_decide_eq_true c) (λz=>nomatch z)) (λ_=>?_)⟩;refine⟨Y,Q,Y,kK.str v,tj bV,Y,fT ?_⟩;refine⟨Y,Q,Y,kK.str v,tk bV,Y,fT ?_⟩;refine⟨Y,Q,Y,kK.str v,i' bV,Y,iK ?_⟩;exact⟨Y,Q,Y,kK.str v,i' bV,Y,iK ⟨Y,Y,1,tt rfl e⟩⟩
  | _=>cases r
 ·refine⟨Y,Y,dO (λc=>absurd (of_decide_eq_true c) (λz=>nomatch z)) (λ_=>?_)⟩;refine⟨Y,Q,Y,b.ty,tU bV a,Y,fT ?_⟩;refine⟨Y,Q,Y,b.ty,t5 bV a,Y,fT ?_⟩;refine⟨Y,Q,Y,b.ty,ub bV a,Y,fT ?_⟩;refine⟨Y,Q,Y,b.ty,jp bV a,Y,Q,Y,d.ty,jp bV a,1,Y,Pa rfl ?_⟩;refine⟨Y,Q,Y,b.ty,js bV a,Y,Q,Y,d.ty,js bV a,1,Y,Pa rfl ?_⟩;refine⟨Y,g,Y,d.or,Y,j,Y,b.or,1,Y,Pa (by rw[m]) ?_⟩;refine⟨Y,Y,a,g,j,t,w,1,d.sq,b.sq,To (λi f c=>∃ u v,f=[⇑↥g,⇑↥j,u,v]/\aJ H c) m ⟨none,none,1,aJ.refl H⟩ (by rintro i f c _ ⟨_,_,_,s⟩;exact⟨(d.same s).sq,(b.same s).sq⟩) ?_ ?_⟩
  ·rintro i u v z f c B C F ⟨_,_,rfl,s⟩;exists z,Y,dN.of af,1,u,[v],1,v,[],V;let a:=s.trans (ao F (.tup [u,v]));refine⟨Y,Y,u,v,1,Eqv.same a (A i u v B C),λd b=>⟨Y,fT ?_⟩⟩;exact⟨E,1,a.trans b⟩
  ·rintro f c ⟨_,_,rfl,s⟩;exact l c s
theorem jD(D:bS):∀ n:Nat,aZ cX bf bV cW cV cQ (n+1) (dQ 3) (dR 3) ["r","J"] (zT n)
 | 0=>by
  let b:∀ a H Q E,¬ zT 0 a H Q E:=λa H Q E h=>by
   let⟨x,y,_,h,_⟩:=h;exact h
  exact⟨λa H Q E h=>absurd h (b a H Q E),λA c s H args d a Q E _ _ _ _ h=>absurd h (b a H Q E)⟩
 | n+1=>Bv D (Eb D) (jD D n)
theorem oM:‹(1,4,["j"],Tu)›:=λD=>by
 refine eZ ["j","told","i","o"] D.Yh.F λdc A zn s H vs Q E hr _ h=>?_;let⟨w,row,rfl,⟨J,B,F⟩,R,k⟩:=h;refine⟨_,#v[aY 1 (bM ah),eO PassesOwn.never rfl (cC (pv 0)) (j6 (n:=2) rfl (bR (bW 2) (bR (bW 3) gB))) #v[bN (aV eV (pv 2) (pv 3) (bz _)) #v[FG] bu,bN (PW.pt (oW (jG (pv 1) (λ_=>rfl)) (lZ (aV eV (aR bh (aR bK (pv 1) (iE gf az)) az) (pv 2) (bz _))))) #v[mS (c9 #[aR bh (aR bK (pv 1) (iE gf az)) az,3]) (oY (pv 1) (iE gf az) jH)] #v[aT (dZ oS jE jF bX (pv 1) #[c9 #[2,3]])]],aK (pv 1)],?_⟩
 rfl'
 refine⟨iz,λq g=>?_⟩;let s0:aJ H (aO H q (.lst [])):=ao g _;refine⟨Y,w,1,⟨_,bJ.of (s0 _ _ B)⟩,dG (K:=bV) (e:=w) (b:=J.map V.ref) (λi u c=>∃ (d:WF) (x y:Option V),u=[⇑↥w,⇑↥q,x,y]/\c q=⇑(.lst (d.map V.ref))/\bx c d ((row.take i).foldl eL [])/\aJ H c) ⟨[],none,none,1,af,.nil,s0⟩ (by rintro i u c _ ⟨_,_,_,_,_,_,s⟩;exact bJ.of (s _ _ B)) ?_ ?_⟩
 ·rintro i S u c G ⟨d,x,y,rfl,a,b,s⟩;rw[kB]at G;let⟨L,M,rfl⟩:=Option.map_eq_some_iff.mp G;let⟨⟨f,j⟩,w,B⟩:=F.get M;let step:=CG (f:=eL) w
  let N:↑d<sizeLine:=by
   let z:=b.len;let e:=F3 (row.take i) [];rw[gI]at e;exact aQ (by simp only[oq]at e;lia)
  exists L,Y,dN.of (s _ _ B),1,E,1,Z;refine⟨Y,Y,1,Y,dO (λw=>?_) (λw=>?_)⟩
  ·let B:f=j:=V.int.inj (of_decide_eq_true w);refine⟨d,E,1,a,?_,s⟩;rw[step,eL,if_pos B];exact b
  ·let B:¬ f=j:=λz=>w (decide_eq_true (congrArg V.int z));rw[eL,if_neg B]at step;rcases lY ((row.take i).foldl eL []) with v|⟨i,C,v⟩
   ·rw[v]at b step;let o:d=[]:=List.eq_nil_of_length_eq_zero b.len;subst o;refine⟨Y,false,.inl ⟨_,bJ.of a,1⟩,fT (fT ?_)⟩;refine⟨Y,.inl ⟨1,_,bJ.of a⟩,Y,Y,mj,λt e=>⟨q,Z,ao e _ _ _ a,(by show 0<sizeLine;decide),?_⟩⟩;let⟨l,m,n⟩:=zX (c:=f) (d:=j) g s a b e;refine⟨[]++[t],E,1,l,?_,n⟩;rw[step,jc];exact m
   ·rw[j3]at v;rw[v]at b step;let⟨o,p,rfl,O,I⟩:=b.split;let r:c q=⇑(.lst (o.map V.ref++[↥p])):=by rw[a,gm];rfl
    refine⟨Y,true,.inl ⟨_,bJ.of r,by simp⟩,iK ?_⟩;refine⟨Y,Y,q,Q,V,bJ.of r,gX _ _,p,Q,V,dN.of I,Jj,Y,1,Y,dO (λi=>?_) (λi=>?_)⟩
    ·let v:C.2=f:=V.int.inj (of_decide_eq_true i);refine⟨Y,Y,q,Q,V,bJ.of r,gX _ _,p,Q,V,dN.of I,DP,Y,mj,λt e=>?_⟩;exists Y,Y,q,E,↑o,V,ao e _ _ _ r,Jo o p;let⟨l,m,n⟩:=turned (st:=C.1) (en:=j) g s r O e;refine⟨o++[t],E,1,l,?_,n⟩;rw[step,jd _ v];exact m
    ·let v:¬ C.2=f:=λz=>i (decide_eq_true (congrArg V.int z));refine⟨Y,.inl ⟨1,_,bJ.of a⟩,Y,Y,mj,λt e=>⟨q,Z,ao e _ _ _ a,(by rw[b8];exact N),?_⟩⟩;let⟨l,m,n⟩:=zX (c:=f) (d:=j) g s a b e;refine⟨o++[p]++[t],E,1,l,?_,n⟩;rw[step,je _ v];exact m
 ·rintro u c ⟨d,x,y,rfl,a,b,s⟩;refine⟨Y,k q c ⟨d,a,?_⟩ s g⟩;rw[b8,F.len,gQ]at b;exact b
theorem Ec:‹(1,5,["j"],XW)›:=λD=>by
 specialize eZ ["j"] D.Yi.F;let⟨r,row,rfl,⟨i,e,f⟩,n,k⟩:=h;refine⟨_,#v[aK (cA (FY rfl) rfl D.T.Qg PyProof.Rows.boot_sum #[gO (N:=["i","o"]) (jJ (c:=b9 Pc) (f:=["j"]) (d:=[none,none]) rfl rfl rfl nofun nofun rfl nofun rfl nofun) rfl (cC (pv 0)) (λ_ _ _ _ _ _=>(rK (n:=2) rfl (bR (bW 0) (bR (bW 1) gB)))) (λ_ _ _ _ _ _=>gU) (λ_ _ _ _ _ _=>(bG dH (pv 1) (pv 0)))])],?_⟩
 rfl'
 refine⟨Y,r,1,⟨_,bJ.of e⟩,λd g=>gv (K:=bV) (h:=r) (a:=i.map V.ref) (λi b a=>∃ u v:Option V,b=[u,v]/\a d=⇑(.lst (((row.take i).map λp=>p.2-p.1).map V.int))/\aJ H a) ⟨none,none,1,af,ao g _⟩ (by rintro i b a _ ⟨_,_,_,_,s0⟩;exact bJ.of (s0 _ _ e)) ?_ ?_⟩
 ·rintro i x b a j ⟨u,v,rfl,c,s0⟩;rw[kB]at j;let⟨l,m,rfl⟩:=Option.map_eq_some_iff.mp j;let⟨⟨j,n⟩,e,i⟩:=f.get m;refine⟨l,Y,dN.of (s0 _ _ i),1,E,1,Z,yes (iK ?_)⟩;refine⟨Y,Y,Z,_,c,?_,E,1,?_,bQ g s0 (aI d _ _)⟩
  ·rw[b8,b8,gI];exact aQ ∅
  ·rw[af,take_snoc e,gm,gm];rfl
 ·rintro b a ⟨u,v,rfl,c,s0⟩;rw[b8,f.len,gQ]at c;exact⟨d,Y,bJ.of c,k a s0⟩
class inductive Qq
 | mk (r:Addr) (c:Row) (a b:Int) (_:vs=[↥r,.int a,.int b]) (_:bU H r c) (_:↑c<=1000000) (_:TQ a b (jm c)) (_:∀ d,aJ H d->Q .gc d)
theorem iD:‹(2,6,["j","i","o"],Qq)›:=λD=>by
 specialize eZ ["j","i","o"] D.ZL.F;let⟨r,a,d,e,rfl,R,b,z,k⟩:=h;exists _,#v[bN (iY (MY gJ gJ gJ az (pv 1) (pv 2) (_fJ.vF D.Yi (D.T.n9 _ D.Yi.m) (Ec D) hr #[0]))) #v[iH] bu]
 rfl'
 exists Y,Z,Y;rw[decide_eq_true z.1];refine dO (λ_=>?_) (λc=>absurd rfl c);exists Y,Z,Y;rw[decide_eq_true z.2.1];refine dO (λ_=>?_) (λc=>absurd rfl c);refine⟨Y,r,a,1,R,b,λa b=>⟨Z,Y,?_⟩⟩;rw[decide_eq_true z.2.2];exact fT (k a b)
theorem rO:‹(1,7,["j","i","o"],F7)›:=λD=>by
 refine eZ ["j","i","o","told","ahead","first","last","low","high"] D.Yj.F λdc A zn s H vs Q E hr _ h=>?_
 let⟨r,row,a,b,rfl,⟨x,o,p⟩,N,k⟩:=h;refine⟨_,#v[aY 3 (bM ah),aY 4 az,eO PassesOwn.never rfl (cC (pv 0)) (j6 (n:=2) rfl (bR (bW 5) (bR (bW 6) gB))) #v[aY 7 (cA (mD rfl) rfl D.T.As PyProof.Rows.boot_max #[bG dH (pv 1) (pv 4),az]),aY 8 (cA (oA rfl) rfl D.T.Gq PyProof.Rows.boot_min #[bG dH (pv 2) (pv 4),bG dH (pv 6) (pv 5)]),bN (aV kJ (pv 7) (pv 8) (bz _)) #v[aT (dZ oS jE jF bX (pv 3) #[c9 #[bG dY (pv 5) (pv 7),bG dY (pv 5) (pv 8)]])] bu,tS (i:=4) (by assumption) rfl (Or.inl rfl) (bG dH (pv 6) (pv 5)) OF],aK (pv 3)],?_⟩
 rfl'
 refine⟨iz,λq m=>?_⟩;let s0:aJ H (aO H q (.lst [])):=ao m _;refine⟨Y,r,1,⟨_,bJ.of (s0 _ _ o)⟩,dG (K:=bV) (e:=r) (b:=x.map V.ref) (λi l f=>∃ (d:WF) (t:Int) (u v x y:Option V),l=[⇑↥r,⇑(.int a),⇑(.int b),⇑↥q,⇑(.int t),u,v,x,y]/\t=jm (row.take i)/\f q=⇑(.lst (d.map V.ref))/\bx f d (lF a b 0 (row.take i))/\aJ H f) ⟨[],0,none,none,none,none,V,af,.nil,s0⟩ (by rintro i l f _ ⟨_,_,_,_,_,_,_,_,_,_,s⟩;exact bJ.of (s _ _ o)) ?_ ?_⟩
 ·rintro i x l f w ⟨d,t,u,v,B,C,rfl,n,g,j,s⟩;rw[kB]at w;let⟨F,G,rfl⟩:=Option.map_eq_some_iff.mp w;let⟨⟨c,e⟩,o,I⟩:=p.get G;let step:=F4 a b (c,e) (row.take i) 0;rw[← take_snoc o,Int.zero_add,← n]at step;let y:t+(e-c)=jm (row.take (i+1)):=by rw[take_snoc o,Pr,n]
  let J:↑d<sizeLine:=by
   let z:=j.len;let o:=kj a b (row.take i) 0;rw[gI]at o;exact aQ ∅
  let L:(if (0:Int) > a-t then (0:Int) else a-t)=max (a-t) 0:=by split <;> lia
  let M:(if e-c<b-t then e-c else b-t)=min (b-t) (e-c):=by split <;> lia
  exists F,Y,dN.of (s _ _ I),1,E,1,Z;exists Y,Y,Z,E,1;exists Y,Y,Z,Y,Y,Z,E,1;rw[L,M];refine⟨Y,Y,Z,Y,dO (λi=>?_) (λi=>?_)⟩
  ·let o:max (a-t) 0<min (b-t) (e-c):=of_decide_eq_true i;unfold PB at step;rw[if_pos o]at step;refine⟨Y,.inl ⟨1,_,bJ.of g⟩,Y,Y,Z,Y,Y,Z,mj,λw r=>⟨q,Z,ao r _ _ _ g,(by rw[b8];exact J),?_⟩⟩;let⟨x,z,F⟩:=zX (c:=c+max (a-t) 0) (d:=c+min (b-t) (e-c)) m s g j r;exists Y,Y,Y,Z,Z;refine⟨d++[w],Q,E,1,y,x,?_,F⟩;rw[step];exact z
  ·let o:¬ max (a-t) 0<min (b-t) (e-c):=λz=>i (decide_eq_true z);unfold PB at step;rw[if_neg o,ir]at step;exists Y,Y,Y,Z,Z;refine⟨d,Q,E,1,y,g,?_,s⟩;rw[step];exact j
 ·rintro l f ⟨d,t,u,v,B,C,rfl,n,g,j,s⟩;rw[b8,p.len,gQ]at j;exact⟨Y,k q f ⟨d,g,j⟩ s m⟩
class inductive Ut
 | mk (r:Addr) (c:Row) (a b:Int) (_:vs=[↥r,.int a,.int b]) (_:bU H r c) (_:↑c<=1000000) (_:TQ a b (jm c)) (_:∀ (q:Addr) (d:Hp),bU d q (cJ (lF a b 0 c))->aJ H d->H q=none->Q ↥q d)
theorem Uu:‹(3,8,["j","i","o"],Ut)›:=λD=>by
 specialize eZ ["j","i","o"] D.kh.F;let⟨r,a,b,c,rfl,R,d,z,k⟩:=h;exists _,#v[aT (aF D.ZL (iD D) hr #[0,1,2]),aK (aF D.Yh (oM D) hr #[aF D.Yj (rO D) hr #[0,1,2]])]
 rfl'
 refine⟨Y,Y,Y,r,a,b,c,1,R,d,z,λf e=>?_⟩;refine⟨Y,Y,Y,r,a,b,c,1,R.same e,d,λq g R2 f i=>?_⟩;refine⟨q,Y,R2,iG (kj b c a 0) d,λa b c d g=>?_⟩;exact k a b c (e.trans (f.trans d)) (aU (e.trans f) g)
theorem vH:‹(1,9,["j"],TM)›:=λD=>by
 specialize eZ ["j"] D.gA.F;let⟨r,row,rfl,⟨o,b,n⟩,hok,p,k⟩:=h;refine⟨_,#v[aK (wL (N:=["i","o","t"]) (jJ (c:=b9 tY) (f:=["j"]) (d:=[none,none,none]) rfl rfl rfl nofun nofun rfl nofun rfl nofun) rfl (cC (pv 0)) (λ_ _ _ _ _ _=>(rK (n:=2) rfl (bR (bW 0) (bR (bW 1) gB)))) (λ_ _ _ _ _ _=>gU) (λ_ _ _ _ _ _=>(MW rfl D.T.jO #[0,1])) (λ_ _ _ _ _ _=>(bW 2)) (λ_ _ _ _ _ _=>gU) (λ_ _ _ _ _ _=>(pv 2)))],?_⟩
 rfl'
 refine⟨Y,r,1,⟨_,bJ.of b⟩,λe j=>qS (K:=bV) (f:=r) (a:=o.map V.ref) (λi a c=>∃ u v z:Option V,a=[u,v,z]/\c e=⇑(.lst ((bg (row.take i)).map V.int))/\aJ H c) ⟨none,none,none,1,af,ao j _⟩ (by rintro i a c _ ⟨_,_,_,_,_,s0⟩;exact bJ.of (s0 _ _ b)) ?_ ?_⟩
 ·rintro i x a c d ⟨u,v,z,rfl,f,s0⟩;rw[kB]at d;let⟨q,s,rfl⟩:=Option.map_eq_some_iff.mp d;let⟨⟨b,d⟩,o,r⟩:=n.get s;let s:b<=d:=hok _ (mC o);let step:=zW o
  let o:↑(bg (row.take i))+(d-b).toNat<=1000000:=by
   let z:=tK row (i+1);rw[step,cY,gG,fC]at z;exact iG z p
  refine⟨q,Y,dN.of (s0 _ _ r),1,E,1,Z,yes (iK ?_)⟩;refine⟨Y,Y,b,d,1,F2 (lo:=b) (k:=(d-b).toNat) (λo a g=>∃ z:Option V,a=[⇑(.int b),⇑(.int d),z]/\g e=⇑(.lst ((bg (row.take i)++run b o).map V.int))/\aJ H g) ⟨z,1,?_,s0⟩ ?_ ?_⟩
  ·rw[run,ir];exact f
  ·rintro o a g t ⟨z,rfl,l,m⟩;refine TL ?_;refine iK ?_;refine⟨Y,_,l,?_,Y,?_,bQ j m (aI e _ _)⟩
   ·rw[b8,cY,fC];exact aQ ∅
   ·rw[af,oH,← j4];simp
  ·rintro a g ⟨z,rfl,l,m⟩;refine⟨Q,1,?_,m⟩;rw[step];exact l
 ·rintro a c ⟨u,v,z,rfl,f,s0⟩;rw[b8,n.len,gQ]at f;exact k e c f s0 j
theorem C4:‹(2,10,["j"],P7)›:=λD=>by
 refine eZ ["j","told","i","o"] D.Yk.F λdc A zn s H vs Q E hr _ h=>?_;let⟨r,F,rfl,R,eT,ok,ai⟩:=h;refine⟨_,#v[aY 1 (bM ah),eO PassesOwn.never rfl (cC (cA DZ rfl D.T.Gr PyProof.Rows.boot_sorted #[aF D.Yh (oM D) hr #[0]])) (j6 (n:=2) rfl (bR (bW 2) (bR (bW 3) gB))) #v[bN (PW.pt (oW (jG (pv 1) (λ_=>rfl)) (lZ (aV gJ (pv 2) (aR bh (aR bK (pv 1) (iE gf az)) az) (bz _))))) #v[mS (c9 #[aR bh (aR bK (pv 1) (iE gf az)) az,cA (mD rfl) rfl D.T.As PyProof.Rows.boot_max #[aR bh (aR bK (pv 1) (iE gf az)) az,3]]) (oY (pv 1) (iE gf az) jH)] #v[aT (dZ oS jE jF bX (pv 1) #[c9 #[2,3]])]],aK (pv 1)],?_⟩
 rfl'
 refine⟨iz,λq N=>?_⟩;let s0:aJ H (aO H q (.lst [])):=ao N _;refine⟨Y,r,F,1,R.same s0,by lia,λR I R1 O Na=>?_⟩;let⟨ak,h1,p1⟩:=R1;let pl:=iT F;refine⟨R,ak,cJ F,1,h1,p1,by lia,λB J L hl JD ZH pL=>?_⟩;let R:aJ I (aO I B (.lst (J.map V.ref))):=ao hl _;let ab:=pL.same R;let am:=s0.trans (O.trans R);let fZ:=(O.trans R) _ _ (af (H:=H) (a:=q) (o:=.lst []))
 let an:∀ p∈cJ F,p.1<p.2:=λp l=>by
  let z:∀ (r t:Row),Ok r->(∀ p∈t,p.1<p.2)->∀ p∈r.foldl eL t,p.1<p.2:=by
   intro r
   induction r with
   | nil=>intro t _ a;exact a
   | cons c r f =>
    intro t h a;rw[j5];refine f _ (λb g=>h b (j0 _ g)) ?_;let ha:=h c (by simp);unfold eL;by_cases C:c.1=c.2
    ·rw[if_pos C];exact a
    ·rw[if_neg C];rcases lY t with rfl|⟨g,b,rfl⟩
     ·rw[jc];intro p l;rw[List.mem_singleton.mp l];show c.1<c.2;lia
     ·rw[j3]at a ⊢;let f:=a b (by simp);by_cases d:b.2=c.1
      ·rw[jd _ d];intro p l;rcases List.mem_append.mp l with e|e
       ·exact a p (nC _ e)
       ·rw[List.mem_singleton.mp e];show b.1<c.2;lia
      ·rw[je _ d];intro p l;rcases List.mem_append.mp l with e|e
       ·exact a p e
       ·rw[List.mem_singleton.mp e];show c.1<c.2;lia
  exact z F [] ok (λp l=>by cases l) p l
 let⟨lG,ap⟩:=Nb JD ZH an;let l:B≠q:=(aB (O _ _ af) hl).symm;let p:=JD.length_eq;refine⟨B,1,⟨_,bJ.of af⟩,dG (K:=bV) (e:=B) (b:=J.map V.ref) (λm M a=>∃ (f:WF) (S T:Option V),M=[⇑↥r,⇑↥q,S,T]/\a q=⇑(.lst (f.map V.ref))/\bx a f ((L.take m).foldl gh [])/\cD q (aO I B (.lst (J.map V.ref))) a) ⟨[],none,none,1,fZ,.nil,cD.refl _ _⟩ (by rintro m M a _ ⟨_,_,_,_,_,_,o⟩;exact bJ.of (o _ _ af l)) ?_ ?_⟩
 ·rintro m aq M a hi ⟨f,S,T,rfl,i,g,o⟩;rw[kB]at hi;let⟨c,ea,rfl⟩:=Option.map_eq_some_iff.mp hi;let⟨⟨j,k⟩,ep,l⟩:=ab.get ea
  let ha:ki a c (j,k):=o _ _ l (λz=>by
   let bf:=l;unfold ki at bf;rw[z,fZ]at bf
   cases bf)
  let step:=CG (f:=gh) ep
  let bl:↑f<sizeLine:=by
   let z:=g.len;let b:=P1 (L.take m) [];rw[gI,oq]at b;exact aQ ∅
  exists c,Y,dN.of ha,1,E,1,Z
  let ae:gh ((L.take m).foldl gh []) (j,k)=(L.take m).foldl gh []++[(j,k)]->∀ t,a t=none->∃ (c:WF) (l p:Option V),[⇑(V.ref r),⇑↥q,⇑(.int j),⇑(.int k)]=[⇑↥r,⇑↥q,l,p]/\(aO (aO a t (.tup [.int j,.int k])) q (.lst (f.map V.ref++[↥t]))) q=⇑(.lst (c.map V.ref))/\bx (aO (aO a t (.tup [.int j,.int k])) q (.lst (f.map V.ref++[↥t]))) c ((L.take (m+1)).foldl gh [])/\cD q (aO I B (.lst (J.map V.ref))) (aO (aO a t (.tup [.int j,.int k])) q (.lst (f.map V.ref++[↥t]))):=λe t d=>by
   let u:aJ a (aO a t (.tup [.int j,.int k])):=ao d _;let U:t≠q:=(aB i d).symm;refine⟨f++[t],E,1,by rw[af,gm];rfl,?_,λb v W z=>aI q _ _ b v (u _ _ (o b v W z)) z⟩;rw[step,e];refine bx.snoc ((g.same u).keep (u _ _ i) (aI q _ _)) ?_;show aO _ _ _ t=_;rw[aN U,af]
  rcases lY ((L.take m).foldl gh []) with w|⟨c,G,w⟩
  ·let b:f=[]:=by rw[w]at g;exact List.eq_nil_of_length_eq_zero g.len
   subst b;refine⟨Y,false,.inl ⟨_,bJ.of i,1⟩,fT (fT ?_)⟩;exact⟨Y,.inl ⟨1,_,bJ.of i⟩,Y,Y,mj,λt d=>⟨q,Z,ao d _ _ _ i,(by show 0<sizeLine;decide),ae (by rw[w];rfl) t d⟩⟩
  ·rw[j3]at w;let ag:=g;rw[w]at ag;let⟨n,x,rfl,hc,X⟩:=ag.split;let y:a q=⇑(.lst (n.map V.ref++[↥x])):=by rw[i,gm];rfl
   refine⟨Y,true,.inl ⟨_,bJ.of y,by simp⟩,iK ?_⟩;refine⟨Y,Y,Y,q,Q,V,bJ.of y,gX _ _,x,Q,V,dN.of X,Jj,Z,Y,dO (λc2=>?_) (λc2=>?_)⟩
   ·let C:j<=G.2:=of_decide_eq_true c2;refine⟨Y,Y,q,Q,V,bJ.of y,gX _ _,x,Q,V,dN.of X,DP,Y,Y,q,Q,V,bJ.of y,gX _ _,x,Q,V,dN.of X,Jj,Y,E,1,mj,λt d=>?_⟩;exists Y,Y,q,E,↑n,V,ao d _ _ _ y,Jo n x;let u:aJ a (aO a t (.tup [.int G.1,.int (if k > G.2 then k else G.2)])):=ao d _;let U:t≠q:=(aB y d).symm
    let es:(n.map V.ref++[V.ref x]).set ↑n ↥t=(n++[t]).map V.ref:=by
     let z:=zU (n.map V.ref) (V.ref x) (V.ref t);rw[b8]at z;rw[z,gm];rfl
    rw[es];refine⟨n++[t],E,1,af,?_,λb v W z=>aI q _ _ b v (u _ _ (o b v W z)) z⟩;rw[step,w,uq _ C];refine bx.snoc ((hc.same u).keep (u _ _ y) (aI q _ _)) ?_;show aO _ _ _ t=_;rw[aN U,af]
   ·let C:¬ j<=G.2:=λz=>c2 (decide_eq_true z);exact⟨Y,.inl ⟨1,_,bJ.of i⟩,Y,Y,mj,λt d=>⟨q,Z,ao d _ _ _ i,(by rw[b8];exact bl),ae (by rw[w,uu _ C]) t d⟩⟩
 ·rintro M a ⟨f,S,T,rfl,i,g,o⟩;rw[b8,ab.len,gQ]at g;let c:=P1 L [];rw[oq]at c;refine⟨Y,ai q _ a ⟨f,i,g⟩ lG (λaq=>by rw[ap,PZ ok]) ∅ (λb v e=>o b v (am _ _ e) (aB e N)) N⟩
def GB{b:Row}(h:uo b){i j:Nat}{p q:Int × Int}(c:b[i]?=⇑p)(a:b[j]?=⇑q)(k:i<=j):p.2<=q.2:=by
 by_cases d:i=j
 ·subst d;rw[c]at a;cases a;exact Int.le_refl _
 ·let⟨d,e⟩:=List.getElem?_eq_some_iff.mp c;let⟨f,g⟩:=List.getElem?_eq_some_iff.mp a;have:=List.pairwise_iff_getElem.mp h.1 i j d f ∅;rw[e,g]at this;have:=h.2 q (mC a);lia
theorem nM:‹(1,11,["L","i"],Ug)›:=λD=>by
 specialize eZ ["L","i","low","high","middle"] D.Yl.F;let⟨r,b,x,rfl,⟨c,d,m⟩,lG,k⟩:=h;let v:=m.len;exists _,#v[aY 2 az,aY 3 (fR D.T.fE (pv 0)),qD PassesOwn.never (aV kJ (pv 2) (pv 3) (bz _)) #v[aY 4 (bG zQ (bG dY (pv 2) (pv 3)) az),bN (aV za (aR bh (aR bK (pv 0) (pv 4)) az) (pv 1) (bz _)) #v[aY 3 (pv 4)] #v[aY 2 (bG dY (pv 4) az)]],aK (pv 2)]
 rfl'
 exists Y,r,Y,.inl (bJ.of d);rw[b8,v];refine⟨λn o e=>∃ (lo a:Nat) (u:Option V),o=[⇑↥r,⇑(.int x),⇑(.int lo),⇑(.int a),u]/\e=H/\n=a-lo/\lo<=a/\a<=↑b/\(∀ i p,b[i]?=⇑p->i<lo->p.2<=x)/\(∀ i p,b[i]?=⇑p->a<=i->x<p.2),⟨_,0,↑b,none,V,1,by lia,fF _,λi p _ h=>by lia,λi p d v=>by rw[List.getElem?_eq_none v]at d;cases d⟩,?_⟩;rintro n o e ⟨lo,a,u,rfl,rfl,rfl,n,q,s,t⟩;refine⟨Y,Y,Z,Y,dO (λf=>?_) (λf=>?_)⟩
 ·let G:(lo:Int)<a:=of_decide_eq_true f;refine⟨fun n o=>∃ v,v<a-lo/\∃ (lo a:Nat) (u:Option V),n=[⇑↥r,⇑(.int x),⇑(.int lo),⇑(.int a),u]/\o=e/\v=a-lo/\lo<=a/\a<=↑b/\(∀ i p,b[i]?=⇑p->i<lo->p.2<=x)/\(∀ i p,b[i]?=⇑p->a<=i->x<p.2),fun n o z=>z,?_⟩;let w:((lo:Int)+a) / 2=((lo+a) / 2:Nat):=by lia
  refine⟨Y,Y,Z,Z,⟨by decide,by decide⟩,?_⟩;obtain⟨mid,y⟩:∃ mid,mid=(lo+a) / 2:=⟨Y⟩;let g:b[mid]?=⇑b[mid]:=nT ∅;let B:c[mid]?=⇑c[mid]:=nT ∅;let⟨e,C,I⟩:=m.get B;rw[g]at C;cases C
  let J:oU (c.map V.ref) (((lo:Int)+a) / 2)=⇑(.ref c[mid]):=by
   rw[w,← y];exact dh (by rw[kB,B];rfl)
  refine⟨Y,Y,r,Q,V,bJ.of d,J,c[mid],Q,V,dN.of I,Jj,Y,Z,Y,dO (λj=>?_) (λj=>?_)⟩
  ·let L:x<b[mid].2:=of_decide_eq_true j;refine⟨Y,mid-lo,by lia,lo,mid,⇑(.int (((lo:Int)+a) / 2)),?_,V,by lia,by lia,s,λi p l F=>?_⟩
   ·rw[y,← w];rfl
   ·have:=GB lG g l F;lia
  ·let L:¬ x<b[mid].2:=λz=>j (decide_eq_true z);refine⟨Y,Z,a-(mid+1),by lia,mid+1,a,⇑(.int (((lo:Int)+a) / 2)),?_,V,by lia,q,λi p l F=>?_,t⟩
   ·have:((lo:Int)+a) / 2+1=((mid+1:Nat):Int):=by lia
    rw[← this];rfl
   ·have:=GB lG l g ∅;lia
 ·let G:¬ (lo:Int)<a:=λz=>f (decide_eq_true z);have g:a=lo:=by lia
  subst g;exact⟨Y,k a ⟨q,s,t⟩⟩
open Classical in
def Uv{a:Row}{x:Int}{n:Nat}(h:e' a x n)(d:uo a):_gE.Iq a x=decide (∃ p,a[n]?=⇑p/\p.1<=x):=by
 rw[Bool.eq_iff_iff,jM,decide_eq_true_iff];constructor
 ·rintro⟨p,b,c,l⟩;let⟨i,e⟩:=List.getElem?_of_mem b
  let l:n<=i:=by
   rcases Nat.lt_or_ge i n with z|z
   ·have:=h.2.1 i p e z;lia
   ·exact z
  let⟨j,f⟩:=List.getElem?_eq_some_iff.mp e;let g:a[n]?=⇑a[n]:=nT ∅;exists a[n],g;by_cases k:n=i
  ·subst k;rw[f];exact c
  ·let q:=List.pairwise_iff_getElem.mp d.1 n i ∅ j ∅;have:=d.2 _ (mC g);rw[f]at q;lia
 ·rintro⟨p,b,c⟩;exact⟨p,mC b,c,h.2.2 n p b (fF _)⟩
open Classical in
theorem Nn:‹(2,12,["L","t"],P8)›:=λD=>by
 specialize eZ ["L","t","hole"] D.kk.F;let⟨r,a,x,rfl,R,f,k⟩:=h;exists _,#v[aY 2 (aF D.Yl (nM D) hr #[0,1]),aK (oX (kC kJ (pv 2) (fR D.T.fE (pv 0)) (bz _)) (qA (kC gJ (aR bh (aR bK (pv 0) (pv 2)) az) (pv 1) (bz _))))]
 rfl'
 refine⟨Y,Y,r,a,x,1,R,f,λn m=>?_⟩;rw[Uv m f]at k;let⟨b,g,f⟩:=id R;let i:=f.len;refine⟨Y,Y,r,Y,.inl (bJ.of g),Z,Y,dO (λc=>?_) (λc=>?_)⟩
 ·let m:n<↑a:=by
   have:=of_decide_eq_true c;rw[b8,i]at this;lia
  let d:a[n]?=⇑a[n]:=nT m;let j:b[n]?=⇑b[n]:=nT ∅;let⟨m,l,o⟩:=f.get j;rw[d]at l;cases l;exists Y,Y,r,Q,V,bJ.of g,dh (by rw[kB,j];rfl),b[n],Q,V,dN.of o,DP,Y,Z;rw[show decide (∃ p,a[n]?=⇑p/\p.1<=x)=decide (a[n].1<=x) from decide_eq_decide.mpr ⟨λ⟨p,e,z⟩=>by rw[d]at e;cases e;exact z,λz=>⟨_,d,z⟩⟩]at k;exact k
 ·let b:¬ n<↑a:=λz=>c (decide_eq_true (by rw[b8,i];lia));rw[show decide (∃ p,a[n]?=⇑p/\p.1<=x)=false from decide_eq_false λ⟨p,e,_⟩=>by rw[List.getElem?_eq_none ∅]at e;cases e]at k;exact k
theorem Ed:‹(2,13,["i","o","L"],Yb)›:=λD=>by
 refine eZ ["i","o","L","told","left","hole"] D.kr.F λdc A zn s H vs Q E hr _ h=>?_;let⟨r,a,c,b,rfl,R,O,S,X,ae⟩:=h;refine⟨_,#v[aY 3 (bM ah),aY 4 (pv 0),aY 5 (aF D.Yl (nM D) hr #[2,0]),qD PassesOwn.never (PW.pt (oW (aV kJ (pv 5) (fR D.T.fE (pv 2)) (bz _)) (lZ (aV kJ (aR bh (aR bK (pv 2) (pv 5)) az) (pv 1) (bz _))))) #v[aT (dZ oS jE jF bX (pv 3) #[c9 #[4,cA (mD rfl) rfl D.T.As PyProof.Rows.boot_max #[4,aR bh (aR bK (pv 2) (pv 5)) az]]]),aY 4 (cA (oA rfl) rfl D.T.Gq PyProof.Rows.boot_min #[aR bh (aR bK (pv 2) (pv 5)) az,1]),tS (i:=5) (by assumption) rfl (Or.inl rfl) az OF],aT (dZ oS jE jF bX (pv 3) #[c9 #[4,1]]),aK (pv 3)],?_⟩
 rfl'
 refine⟨iz,λq y=>?_⟩;let s0:aJ H (aO H q (.lst [])):=ao y _;refine⟨Y,Y,Y,r,a,c,1,R.same s0,O,λn S=>?_⟩;let⟨d,T,I⟩:=id R;let n1:=I.len;let⟨R,d2⟩:=S.drop;let ag:=S.1;let⟨o1,S,o3⟩:=Wd b (a.drop n) c X R (O.drop n);let O:=P4 b (a.drop n) c;rw[qy]at O
 let ai:bg (lo b c (a.drop n))=fX a (gG (c,b)):=by
  rw[S];refine qT λx e=>(d2 x ?_).symm;have:=(jL.mp e).1;simpa using this
 exists λO R m=>∃ (i:Nat) (l:Int) (e:WF) (f:Row),R=[⇑(.int c),⇑(.int b),⇑↥r,⇑↥q,⇑(.int l),⇑(.int i)]/\m q=⇑(.lst (e.map V.ref))/\bx m e f/\f++lo b l (a.drop i)=lo b c (a.drop n)/\n<=i/\i<=↑a/\O=↑a-i/\aJ H m,⟨_,n,c,[],[],1,af,.nil,1,fF _,ag,1,s0⟩;rintro O R m ⟨i,l,e,f,rfl,j,J,B,ni,il,rfl,o⟩;have O:=J.len;have O:=congrArg List.length B;rw[cY]at O;have L:=o _ _ T;exists Y,Y,r,Y,.inl (bJ.of L),Z,Y;rw[b8,n1];refine LK (p:=(i:Int)<↑a) (q:=(a.getD i (0,0)).1<b) (λpi z=>?_) (λM=>?_) (λM=>?_)
 ·let g:i<↑a:=by lia
  let p:a[i]?=⇑a[i]:=nT g;let t:d[i]?=⇑d[i]:=nT ∅;let⟨pp,u,C⟩:=I.get t;rw[p]at u;cases u;let v:a.getD i (0,0)=a[i]:=by rw[List.getD_eq_getElem?_getD,p];rfl
  rw[v]at z;exact⟨Y,Y,r,Q,V,bJ.of L,dh (by rw[kB,t];rfl),d[i],Q,V,dN.of (o _ _ C),DP,Y,Z,Y,z⟩
 ·let⟨pi,U⟩:=M;let g:i<↑a:=by lia
  let p:a[i]?=⇑a[i]:=nT g;let t:d[i]?=⇑d[i]:=nT ∅;let⟨pp,u,C⟩:=I.get t;rw[p]at u;cases u;let v:a.getD i (0,0)=a[i]:=by rw[List.getD_eq_getElem?_getD,p];rfl
  rw[v]at U;let N:a.drop i=a[i]::a.drop (i+1):=List.drop_eq_getElem_cons g;let W:oU (d.map V.ref) (i:Int)=⇑(.ref d[i]):=dh (by rw[kB,t];rfl)
  let ak:f++[(l,if a[i].1 > l then a[i].1 else l)]++lo b (if b<a[i].2 then b else a[i].2) (a.drop (i+1))=lo b c (a.drop n):=by
   rw[← B,N,lo,if_pos U,j4];rfl
  refine⟨fun t p=>∃ u,u<↑a-i/\∃ (i:Nat) (l:Int) (e:WF) (f:Row),t=[⇑(.int c),⇑(.int b),⇑↥r,⇑↥q,⇑(.int l),⇑(.int i)]/\p q=⇑(.lst (e.map V.ref))/\bx p e f/\f++lo b l (a.drop i)=lo b c (a.drop n)/\n<=i/\i<=↑a/\u=↑a-i/\aJ H p,fun t p z=>z,?_⟩;refine⟨Y,.inl ⟨1,_,bJ.of j⟩,Y,Y,Y,Y,r,Q,V,bJ.of L,W,d[i],Q,V,dN.of (o _ _ C),DP,E,1,mj,λF w=>⟨q,Z,ao w _ _ _ j,(by rw[b8];exact aQ ∅),?_⟩⟩;let⟨G,x,k⟩:=zX (c:=l) (d:=if a[i].1 > l then a[i].1 else l) y o j J w;generalize aO (aO m F (.tup [.int l,.int (if a[i].1 > l then a[i].1 else l)])) q (.lst (e.map V.ref++[↥F]))=c at G x k;exists Y,Y,r,Q,V,bJ.of (k _ _ T),W,d[i],Q,V,dN.of (k _ _ C),Jj,Y,E,1;refine⟨Y,Z,↑a-(i+1),by lia,i+1,_,e++[F],Y,G,x,ak,by lia,by lia,1,k⟩
 ·let p:lo b l (a.drop i)=[(l,b)]:=by
   by_cases g:i<↑a
   ·let N:a.drop i=a[i]::a.drop (i+1):=List.drop_eq_getElem_cons g;let v:a.getD i (0,0)=a[i]:=by rw[List.getD_eq_getElem?_getD,nT g];rfl
    rw[N,lo,if_neg (λz=>M ⟨by lia,by rw[v];exact z⟩)]
   ·rw[yp ∅];rfl
  rw[p]at B;refine⟨Y,.inl ⟨1,_,bJ.of j⟩,Y,Y,mj,λF w=>⟨q,Z,ao w _ _ _ j,(by rw[b8];exact aQ ∅),?_⟩⟩;let⟨G,x,k⟩:=zX (c:=l) (d:=b) y o j J w;rw[B]at x;exact⟨Y,ae q _ _ ⟨_,G,x⟩ o1 ai o3 ∅ k y⟩
theorem uy:‹(3,14,["j","6"],Nc)›:=λD=>by
 specialize eZ ["j","6","L"] D.Uo.F;let⟨W,ai,C,F,rfl,ak,am,Io,yt,Wy,Wz,an⟩:=h;refine⟨_,#v[aY 2 (aF D.Yk (C4 D) hr #[1]),aK (aF D.Yh (oM D) hr #[wL (N:=["i","o","piece","L"]) (jJ (c:=b9 zo) (f:=["j","6","L"]) (d:=[none,none,none,some 2]) rfl rfl rfl nofun nofun rfl nofun rfl nofun) rfl (cC (pv 0)) (λ_ _ _ _ _ _=>(rK (n:=2) rfl (bR (bW 0) (bR (bW 1) gB)))) (λ_ _ _ _ _ _=>gU) (λ_ _ _ _ _ _=>(Gb (aF D.kr (Ed D) hr #[0,1,3]))) (λ_ _ _ _ _ _=>(bW 2)) (λ_ _ _ _ _ _=>gU) (λ_ _ _ _ _ _=>(pv 2))])],?_⟩
 rfl'
 refine⟨Y,ai,F,1,am,yt,Wz,λS bC X RS lG ap ai G hS=>?_⟩;let⟨as,h1,p1⟩:=ak.same G;let n1:=p1.len;refine⟨Y,W,1,⟨_,bJ.of h1⟩,λa cO=>qS (K:=bV) (f:=W) (a:=as.map V.ref) (λi d g=>∃ (I J x:Option V) (c:WF) (L:Row),d=[I,J,x,⇑↥S]/\g a=⇑(.lst (c.map V.ref))/\bx g c L/\Ok L/\bg L=fX F (bg (C.take i))/\↑L<=64*i/\↑L<=i*(↑F+1)/\aJ X g) ⟨none,none,none,[],[],1,af,.nil,(λp l=>by cases l),1,by simp,by simp,ao cO _⟩ (by rintro i d g _ ⟨_,_,_,_,_,_,_,_,_,_,_,_,e⟩;exact bJ.of (e _ _ h1)) ?_ ?_⟩
 ·rintro i aq d g hi ⟨I,J,x,c,L,rfl,r,s,M,t,lL,N,e⟩;rw[kB]at hi;let⟨u,ea,rfl⟩:=Option.map_eq_some_iff.mp hi;let⟨⟨st,en⟩,v,ar⟩:=p1.get ea
  let F:i<↑C:=by
   rcases Nat.lt_or_ge i ↑C with z|z
   ·exact z
   ·rw[List.getElem?_eq_none z]at v;cases v
  refine⟨u,Y,dN.of (e _ _ ar),1,E,1,Z,yes (iK ?_)⟩;refine⟨Y,Y,Y,S,bC,st,en,1,RS.same e,lG,by lia,Wy _ (mC v),λq ab w C av aw _ i k O=>?_⟩;let⟨f,i,pm⟩:=id C;let ml:=pm.len;let C:=s.len;let h3:=k _ _ r;let C:q≠a:=(aB r O).symm;refine⟨q,1,⟨_,bJ.of i⟩,Ah (K:=bV) (j:=q) (o:=a) (t:=qC 2) (tt:=MT) (u:=SJ 2) (b:=f.map V.ref) (λl d b=>∃ R:Option V,d=[⇑(.int st),⇑(.int en),R,⇑↥S]/\b a=⇑(.lst ((c++f.take l).map V.ref))/\bx b (c++f.take l) (L++ab.take l)/\cD a w b/\aJ X b) ?_ ?_ ?_ ?_⟩
  ·exact⟨x,1,(by simpa using h3),(by simpa using s.same k),(λ_ _ T _=>T),e.trans k⟩
  ·rintro l d b _ ⟨_,_,_,_,m,_⟩;exact bJ.of (m q _ i C)
  ·rintro l aq d b hl ⟨R,rfl,j,n,m,U⟩;rw[kB]at hl;let⟨y,o,rfl⟩:=Option.map_eq_some_iff.mp hl;let⟨p,ax,ae⟩:=pm.get o
   let i:l<↑f:=by
    rcases Nat.lt_or_ge l ↑f with z|z
    ·exact z
    ·rw[List.getElem?_eq_none z]at o;cases o
   let ag:ki b y p:=m y _ ae (λz=>by
    let bf:w a=⇑(.tup [.int p.1,.int p.2]):=by rw[← z];exact ae
    rw[h3]at bf
    cases bf)
   let B:cD a b (aO b a (.lst ((c++f.take l).map V.ref++[↥y]))):=aI a _ _;refine TL (iK ⟨Y,_,j,?_,Y,?_,?_,λu i T C=>B u i (m u i T C) C,bQ cO U B⟩)
   ·rw[b8,cY,gI];exact aQ ∅
   ·rw[af,take_snoc o,← j4,gm (l₁:=c++f.take l)];rfl
   ·rw[take_snoc o,take_snoc ax,← j4,← j4]
    exact bx.snoc (n.keep j B) (B y _ ag (λz=>by
     let bf:b a=⇑(.tup [.int p.1,.int p.2]):=by rw[← z];exact ag
     rw[j]at bf
     cases bf))
  ·rintro d b ⟨R,rfl,j,n,m,U⟩;rw[b8,gQ]at j n;rw[ml,gQ]at n;refine⟨Q,c++f,L++ab,1,j,n,λp l=>(List.mem_append.mp l).elim (M p) (av p),?_,by rw[cY];lia,(by rw[cY,Nat.succ_mul];lia),U⟩;rw[cZ,t,aw,take_snoc v,cZ,jN,fQ];congr 1;exact qT λx _=>ap x
 ·rintro d g ⟨I,J,x,c,L,rfl,r,s,M,t,lL,N,e⟩;rw[b8,n1,gQ]at t;rw[b8,n1]at lL N;refine⟨a,L,1,⟨c,r,s⟩,by lia,λq w a k O=>?_⟩;let b:=iT L;rw[oG L M,t]at a b;exact an q w a (iG b N) (G.trans (e.trans k)) (aU (G.trans e) O)
def Bl(a:Addr)(H:Hp)(x d t:Addr):Prop:=H x=⇑(.ins a d [("stains",↥t)])
class inductive Uw(CB:Addr)
 | mk (x d:Addr) (_:vs=[↥x]) (_:H x=⇑(.ins CB d [])) (_: ∀ (t:Addr) (a:Hp),Bl CB a x d t->bU a t []->cD x H a->H t=none->Q .gc a)
class inductive YF(CB:Addr)
 | mk (x r e t:Addr) (a b:Row) (_:vs=[↥x,↥r]) (_:Bl CB H x e t) (_:bU H t a) (_:bU H r b) (_:↑a+↑b<64) (_:Ok a) (_:Ok b) (_ :
 ∀ (t':Addr) (c:Row) (d:Hp),Bl CB d x e t'->bU d t' c->uo c->(∀ y,In c y↔In a y\/In b y)->↑c<=↑a+↑b->cD x H d->H t'=none->Q .gc d)
class inductive YG(CB:Addr)
 | mk (x r e t:Addr) (a b:Row) (_:vs=[↥x,↥r]) (_:Bl CB H x e t) (_:bU H t a) (_:bU H r b) (_:↑a<=5000) (_:↑b<64) (_:uo a) (_:Ok b) (_ :
 ∀ (t':Addr) (c:Row) (d:Hp),Bl CB d x e t'->bU d t' c->uo c->(∀ y,In c y↔In a y/\¬ In b y)->↑c<=↑a*(↑b+1)->cD x H d->H t'=none->Q .gc d)
class inductive Ux(CB:Addr)
 | mk (x d t:Addr) (b:Row) (a:Int) (_:vs=[↥x,.int a]) (_:Bl CB H x d t) (_:bU H t b) (_:uo b) (_:Q (.bl (Iq b a)) H)
class inductive YH(CB:Addr)
 | mk (x d t:Addr) (b:Row) (_:vs=[↥x]) (_:Bl CB H x d t) (_:bU H t b) (_: ∀ (q:Addr) (a:Hp),bU a q b->aJ H a->H q=none->Q ↥q a)
theorem vI:‹(1,15,["c"],(Uw dB))›:=λD=>by
 specialize eZ ["c"] D.kt.F;let⟨x,d,rfl,b,k⟩:=h;exists _,#v[iJ (pv 0) (bM ah) rfl]
 rfl'
 refine⟨iz,λt a=>?_⟩;let c:t≠x:=(aB b a).symm;refine⟨Y,x,dB,d,Y,ao a _ _ _ b,D.jw.cl,D.kF,by decide,?_⟩;exact k t _ af ⟨[],by rw[aN c,af];rfl,.nil⟩ (λb o e n=>by rw[aN n];exact ao a _ b o e) a
theorem Bw:‹(3,16,["c","j"],(YF dB))›:=λD=>by
 specialize eZ ["c","j"] D.kv.F;let⟨x,r,d,t,i,j,rfl,c,R,O,k,l,m,n⟩:=h;let⟨b,a,e⟩:=id R;let⟨f,o,g⟩:=id O;let p:=e.len;let p:=g.len;exists _,#v[iJ (pv 0) (aF D.Yk (C4 D) hr #[bG iZ (cG (pv 0) rfl) (pv 1)]) rfl]
 rfl'
 refine⟨Y,x,dB,d,_,↥t,1,c,D.jw.cl,D.kF,1,Y,t,r,Z,a,o,(by rw[b8,b8];exact gV (aQ ∅)),λp o=>?_⟩;let a:aJ H (aO H p (.lst (b.map V.ref++f.map V.ref))):=ao o _;refine⟨p,i++j,1,⟨b++f,by rw[af,gm],(e.same a).append (g.same a)⟩,(by rw[cY];exact k),(λq b=>(List.mem_append.mp b).elim (l q) (m q)),λq M e g i j k f b=>?_⟩;let e:=a.trans f;let f:=e _ _ c;refine⟨Y,x,dB,d,Y,f,D.jw.cl,D.kF,(by show 1<1000;decide),?_⟩;exact n q M _ af (g.obj f (aI x _ _)) i (λy=>(j y).trans oK) (by rw[← cY];exact k) (λc o d n=>aI x _ _ c o (e c o d) n) (aU a b)
theorem Bx:‹(4,17,["c","j"],(YG dB))›:=λD=>by
 specialize eZ ["c","j"] D.kw.F;let⟨x,r,d,t,e,a,rfl,b,R,O,f,g,c,i,k⟩:=h;exists _,#v[iJ (pv 0) (aF D.Uo (uy D) hr #[cG (pv 0) rfl,1]) rfl]
 rfl'
 refine⟨Y,x,dB,d,_,↥t,1,b,D.jw.cl,D.kF,1,Y,t,r,e,a,1,R,O,f,g,c.ok,i,λq f g i e j=>?_⟩;let f:=e _ _ b;refine⟨Y,x,dB,d,Y,f,D.jw.cl,D.kF,(by show 1<1000;decide),?_⟩;refine k q _ _ af (g.obj f (aI x _ _)) (Gk (c.rise.filter _)) (λy=>?_) i (λb o c n=>aI x _ _ b o (e b o c) n) j;rw[kW,← mG];unfold fX;rw[List.mem_filter];refine and_congr_right λ_=>?_;rw[← jM]
 cases Iq a y <;> simp
theorem Au:‹(3,18,["c","t"],(Ux dB))›:=λD=>by
 specialize eZ ["c","t"] D.kz.F;let⟨x,d,t,a,b,rfl,c,R,e,k⟩:=h;exists _,#v[aK (aF D.kk (Nn D) hr #[cG (pv 0) rfl,1])]
 rfl'
 exact⟨Y,x,dB,d,_,↥t,1,c,D.jw.cl,D.kF,1,Y,t,a,b,1,R,e,k⟩
theorem Ef:‹(1,19,["c"],(YH dB))›:=λD=>by
 specialize eZ ["c"] D.kS.F;let⟨x,d,t,f,rfl,b,R,k⟩:=h;let⟨a,c,e⟩:=id R;exists _,#v[aK (fP gK rfl D.T.jv tR #[cG (pv 0) rfl])]
 rfl'
 refine⟨Y,x,dB,d,_,↥t,1,b,D.jw.cl,D.kF,1,t,Y,.inl (bJ.of c),λq b=>?_⟩;let c:aJ H (aO H q (.lst (a.map V.ref))):=ao b _;exact k q _ ⟨a,af,e.same c⟩ c b
theorem Np(a:List aX):↑(gg a)<=↑a:=List.length_filterMap_le _ a
class inductive YI
 | mk (r:Addr) (a:List aX) (_:vs=[↥r]) (_:ck H ↥r a) (_:↑a<=100000) (_ :
 ∀ (o:Addr) (b:Hp),b o=⇑(.lst ((gg a).map V.int))->aJ H b->H o=none->Q ↥o b)
theorem Av:‹(1,20,["l"],YI)›:=λD=>by
 specialize eZ ["l"] D.Ym.F;let⟨r,a,rfl,⟨s,vs,o,l,m⟩,t,k⟩:=h;cases o;refine⟨_,#v[aK (gO (N:=["Z"]) (jJ (c:=b9 zu) (f:=["l"]) (d:=[none]) rfl rfl rfl nofun nofun rfl nofun rfl nofun) rfl (cC (pv 0)) (λ_ _ _ _ _ _=>(bW 0)) (λ_ _ _ _ _ _=>rG (aV eV (aR yR (pv 0) az) bw (bz _))) (λ_ _ _ _ _ _=>(aR yR (pv 0) az)))],?_⟩
 rfl'
 refine⟨Y,r,1,⟨_,bJ.of l⟩,λe f=>gv (K:=bV) (h:=r) (a:=vs) (λi d b=>∃ u:Option V,d=[u]/\b e=⇑(.lst ((gg (a.take i)).map V.int))/\aJ H b) ⟨none,1,af,ao f _⟩ (by rintro i d b _ ⟨_,_,_,s0⟩;exact bJ.of (s0 _ _ l)) ?_ ?_⟩
 ·rintro i x d b p ⟨u,rfl,c,s0⟩;let⟨n,q,g,rfl,j⟩:=m.get p;let step:gg (a.take (i+1))=gg (a.take i)++gg [n]:=by rw[take_snoc q,gR]
  let l:↑(gg (a.take i))<=100000:=by
   let z:=Np (a.take i);rw[gI]at z;lia
  cases n with
  | win n =>
   refine⟨Y,g,Q,V,dN.of (s0 _ _ j),V,Y,dO (λ_=>?_) (λz=>absurd (by decide) z)⟩;refine⟨Y,g,Q,V,dN.of (s0 _ _ j),1,_,c,(by rw[b8];exact aQ ∅),Y,?_,bQ f s0 (aI e _ _)⟩;rw[af,step,gm];rfl
  | aC p q =>
   refine⟨Y,g,Q,V,dN.of (s0 _ _ j),V,Y,dO (λz=>absurd z (by decide)) (λ_=>?_)⟩;refine⟨Y,?_,s0⟩;rw[c,step];show _=⇑(HO.lst ((gg (a.take i)++[]).map V.int));rw[ir]
 ·rintro d b ⟨u,rfl,c,s0⟩;rw[m.len,gQ]at c;exact k e b c s0 f
structure Nq(rows:dD)(ks:Wp):Prop where
 Fq:∀ x∈ks,0<=x/\x<↑rows
 dn:∀ (i:Nat) (x:Int),ks[i]?=⇑x->∀ y,jX rows x y->y∈ks.take i
class inductive Uz
 | mk (r L:Addr) (a:dD) (b:Wp) (_:vs=[↥r,↥L]) (_:iC H r (a.map aL)) (_:H L=⇑(.lst (b.map V.int))) (_:↑b<=1000) (_:↑a<=1000) (_:(∀ e∈a,↑e<=1000)) (_:gZ a) (_:DU a) (_:(∀ s∈b,0<=s/\s<↑a)) (_ :
 ∀ (c:Wp) (o:Addr) (d:Hp),d o=⇑(.lst (c.map V.int))->aJ H d->Nq a c->(∀ s∈b,s∈c)->↑c<=1000->H o=none->Q ↥o d)
def Nq.snoc{c:dD}{a:Wp}{x:Int}(h:Nq c a)(j:0<=x)(k:x<↑c)(e:∀ y,jX c x y->y∈a):Nq c (a++[x]):=by
 refine⟨λy f=>?_,λi y b z d=>?_⟩
 ·rcases List.mem_append.mp f with q|q
  ·exact h.Fq y q
  ·have:y=x:=by simpa using q
   lia
 ·by_cases f:i<↑a
  ·rw[List.getElem?_append_left f]at b;rw[List.take_append_of_le_length ∅];exact h.dn i y b z d
  ·let g:i=↑a:=by
    rcases Nat.lt_or_ge i ↑(a++[x]) with q|q
    ·rw[cY,iA]at q;lia
    ·rw[List.getElem?_eq_none q]at b;cases b
   subst g;rw[List.getElem?_append_right (fF _),Nat.sub_self]at b;cases b;rw[List.take_append_of_le_length (fF _),gQ];exact e z d
def C5{a:List (eG × V)}{b:Wp}(h:a.map (·.1)=b.map Sum.inl)(x:Int):seen a x↔x∈b:=by
 unfold seen;rw[← kO,List.any_eq_true];constructor
 ·rintro⟨p,c,e⟩;let d:p.1=Sum.inl x:=of_decide_eq_true e;have:p.1∈b.map (Sum.inl:Int->eG):=by rw[← h];exact List.mem_map_of_mem c
  rw[d,List.mem_map]at this;let⟨y,d,f⟩:=this;rw[Sum.inl.inj f]at d;exact d
 ·intro d;have:(Sum.inl x:eG)∈a.map (·.1):=by rw[h];exact List.mem_map_of_mem d
  let⟨p,c,e⟩:=List.mem_map.mp this;exact⟨p,c,decide_eq_true e⟩
structure gN(rows:dD)(rk:Int->Nat)(H:Hp)(W S:Addr)(ss:Wp)(H2:Hp)(bs ps ks:Wp)(kvs:List (eG × V)):Prop where
 hW:H2 W=⇑(.lst ((bs++ps).map V.int))
 hS:H2 S=⇑(.dK kvs)
 sm:aJ H H2
 ky:kvs.map (·.1)=ks.map Sum.inl
 tp:Nq rows ks
 rg:∀ x∈bs++ps,0<=x/\x<↑rows
 ns:∀ x∈ps,¬ seen kvs x
 pw:ps.Pairwise λa b=>rk b<rk a
 rb:∀ (i:Nat) (x:Int),ps[i]?=⇑x->rk x+i<=40
 st:∀ s∈ss,s∈bs\/s∈ks
 kl:↑kvs+nY ↑rows kvs<=↑rows
 bl:↑bs<=1000
def C6{a:List (eG × V)}{k:eG}(v:V)(h:(cE a k).isSome=true):(dX a k v).map (·.1)=a.map (·.1):=by
 unfold dX;rw[if_pos (by rw[kO];exact h),nE];refine uN λp _=>?_;show (if p.1=k then (p.1,v) else p).1=p.1
 split <;> rfl
def JM{c:Int->Nat}{a:Wp}(b:∀ (i:Nat) (x:Int),a[i]?=⇑x->c x+i<=40):↑a<=41:=by
 rcases lY a with rfl|⟨d,n,rfl⟩
 ·simp
 ·rw[j3]at b ⊢;have:=b ↑d n (by rw[List.getElem?_append_right (fF _),Nat.sub_self];rfl);rw[cY,iA];lia
structure Top(rk:Int->Nat)(ss bs ps ks:Wp)(kvs:List (eG × V))(By pU:Wp)(n:Int):Prop where
 eq:bs++ps=By++pU++[n]
 ns:∀ x∈pU,¬ seen kvs x/\x≠n
 pw:pU.Pairwise λa b=>rk b<rk a
 rb:∀ (i:Nat) (x:Int),pU[i]?=⇑x->rk x+i<=40
 st:∀ s∈ss,s∈By\/s=n\/s∈ks
 old:seen kvs n->By.length+50-↑pU<↑bs+50-↑ps
 le:By.length+50-↑pU<=↑bs+51-↑ps
 bl:By.length<=↑bs
 up:∀ y:Int,rk y<=40->rk y<rk n->(ps++[y]).Pairwise (λa b=>rk b<rk a)/\∀ (i:Nat) (x:Int),(ps++[y])[i]?=⇑x->rk x+i<=40
def gN.top{u:dD}{c:Int->Nat}{H:Hp}{W v:Addr}{m:Wp}{A:Hp}{d f o:Wp}{p:List (eG × V)}(B:gN u c H W v m A d f o p):d++f=[]\/∃ j e n,Top c m d f o p j e n:=by
 let r:∀ (b:Wp) (y:Int),(∀ (i:Nat) (x:Int),b[i]?=⇑x->c x+i<=40)->c y+↑b<=40->∀ (i:Nat) (x:Int),(b++[y])[i]?=⇑x->c x+i<=40:=by
  intro b y g h i x a;rcases Nat.lt_or_ge i ↑b with q|q
  ·rw[List.getElem?_append_left q]at a;exact g i x a
  ·let k:i=↑b:=by
    rcases Nat.lt_or_ge i ↑(b++[y]) with w|w
    ·rw[cY,iA]at w;lia
    ·rw[List.getElem?_eq_none w]at a;cases a
   subst k;rw[List.getElem?_append_right (fF _),Nat.sub_self]at a;cases a;exact h
 rcases lY f with rfl|⟨e,n,rfl⟩
 ·rcases lY d with rfl|⟨j,n,rfl⟩
  ·exact .inl rfl
  ·rw[j3]at B ⊢;refine .inr ⟨j,[],n,by simp,by simp,by simp,by simp,λs k=>?_,λ_=>?_,?_,?_,λy g h=>⟨by simp,r [] y (by simp) (by simpa using g)⟩⟩
   ·rcases B.st s k with z|z
    ·rcases List.mem_append.mp z with z|z
     ·exact .inl z
     ·exact .inr (.inl (by simpa using z))
    ·exact .inr (.inr z)
   ·rw[cY,iA];simp only[oq];lia
   ·rw[cY,iA];simp only[oq];lia
   ·rw[cY,iA];lia
 ·rw[j3]at B ⊢;let l:=List.pairwise_append.mp B.pw;let b:=B.rb ↑e n (by rw[List.getElem?_append_right (fF _),Nat.sub_self];rfl);refine .inr ⟨d,e,n,by rw[j4],λx a=>⟨B.ns x (nC _ a),λC=>?_⟩,l.1,λi x a=>?_,λs k=>(B.st s k).elim .inl λz=>.inr (.inr z),λz=>absurd z (B.ns n (by simp)),?_,fF _,λy g h=>⟨?_,r _ y B.rb ?_⟩⟩
  ·subst C;exact Nat.lt_irrefl _ (l.2.2 x a x (by simp))
  ·refine B.rb i x ?_;rw[List.getElem?_append_left]
   ·exact a
   ·rcases Nat.lt_or_ge i ↑e with q|q
    ·exact q
    ·rw[List.getElem?_eq_none q]at a;cases a
  ·rw[cY,iA];lia
  ·rw[List.pairwise_append];refine⟨B.pw,by simp,λt D a b=>?_⟩;have:a=y:=by simpa using b
   subst this;rcases List.mem_append.mp D with q|q
   ·have:=l.2.2 t q n (by simp);lia
   ·have:t=n:=by simpa using q
    subst this;exact h
  ·rw[cY,iA];lia
def WA(a:dD)(f:Int->Nat)(H:Hp)(r L W b:Addr)(g:Wp)(m:Nat)(h:_L2.St)(i:Hp):Prop:=∃ (c d j:Wp) (e:List (eG × V)) (u v:Option V),h=[⇑↥r,⇑↥L,⇑↥b,⇑↥W,u,v]/\gN a f H W b g i c d j e/\m=100*nY ↑a e+(↑c+50-↑d)
theorem GC:‹(2,21,["n","G"],Uz)›:=λD=>by
 specialize eZ ["n","G","told","waiting","number","missing"] D.Yn.F;let⟨N,L,c,ss,rfl,hR,hL,aq,eT,ar,pV,⟨rk,as,yx⟩,av,k⟩:=h;let hu:=gM hr;refine⟨_,#v[aY 2 kT,aY 3 (fP gK rfl D.T.jv tR #[1]),qD PassesOwn.never (jG (pv 3) (λ_=>rfl)) #v[aY 4 (aR bK (pv 3) (iE gf az)),LH (N:=["6","told"]) (l:=5) (jJ (c:=b9 Jd) (f:=["n","G","told","waiting","number","missing"]) (d:=[none,some 2]) rfl rfl rfl nofun nofun rfl nofun rfl nofun) rfl (by assumption) rfl rfl (cC (aF D.Ym (Av D) hr #[aR bK (pv 0) (pv 4)])) (λ_ _ _ _ _ _=>(bW 0)) (λ_ _ _ _ _ _=>rG (DA (CM hu (pv 0) (pv 1)))) (λ_ _ _ _ _ _=>(pv 0)),bN (jG (pv 5) (λ_=>rfl)) #v[aT (dZ oS jE jF bX (pv 3) #[aR bK (pv 5) az])] #v[nK hu (pv 2) (pv 4) nG rfl,aT (DL oS PySem.F.slot_list_pop PySem.F.type_list_pop O1 (pv 3))]],aK (fP (Jt rfl) rfl D.T.jv tR #[2])],?_⟩
 rfl'
 intro S O;let R:aJ H (aO H S (.dK [])):=ao O _;refine⟨Y,L,Y,.inl (bJ.of (R _ _ hL)),λW F=>?_⟩;let s2:=R.trans (ao F (.lst (ss.map V.int)))
 let T:H W=none:=by
  cases g:H W with
  | none=>rfl
  | some u=>exact absurd ((R _ _ g).symm.trans F) (by simp)
 let G:W≠S:=(aB af F).symm;refine⟨WA c rk H N L W S ss,⟨_,ss,[],[],[],none,none,1,⟨(by rw[af,ir]),ao F _ _ _ af,s2,1,⟨(λx d=>by cases d),λi x I=>by simp at I⟩,(λx d=>av x (by simpa using d)),by simp,by simp,by simp,(λs o=>.inl o),?_,aq⟩,1⟩,?_⟩
 ·have:=Aj ↑c (λi=>(cE ([]:List (eG × V)) (Sum.inl (i:Int))).isNone);show 0+cnt ↑c _<=_;lia
 rintro aA v H2 ⟨w,C,m,a,J,aH,rfl,B,rfl⟩;exists Y,!((w++C).map V.int).isEmpty,.inl ⟨_,bJ.of B.hW,1⟩;rcases B.top with j|⟨e,f,n,t⟩
 ·let d:(!((w++C).map V.int).isEmpty)=false:=by rw[j];rfl
  rw[d];refine fT ?_
  let q:a.map (λp=>kV p.1)=m.map V.int:=by
   let z:a.map (λp=>kV p.1)=(a.map (·.1)).map kV:=by rw[nE];rfl
   rw[z,B.ky,nE];rfl
  let d:↑m=↑a:=by
   let z:=congrArg List.length B.ky;rw[b8,b8]at z;exact z.symm
  let U:=B.kl;refine⟨Y,S,a,1,B.hS,λl b=>?_⟩;refine k m l _ (by rw[af,q]) (B.sm.trans (ao b _)) B.tp (λs o=>(B.st s o).elim (λz=>?_) id) ∅ ?_
  ·rw[(List.append_eq_nil_iff.mp j).1]at z;cases z
  cases g:H l with
  | none=>rfl
  | some u=>exact absurd ((B.sm _ _ g).symm.trans b) (by simp)
 let X:=B.hW;rw[t.eq]at X;rw[t.eq];refine dO (λ_=>?_) (λz=>absurd (by simp) z);refine⟨fun F R=>∃ m',m'<100*nY ↑c a+(↑w+50-↑C)/\WA c rk H N L W S ss m' F R,fun F R z=>z,?_⟩;let an:oU ((e++f++[n]).map V.int) (-1)=⇑(.int n):=by rw[gm];exact gX _ _
 let⟨n0,n1⟩:=B.rg n (by rw[t.eq];simp);let F:=t.le;let F:=t.bl;let F:=JM B.rb;let F:=JM t.rb;let aw:=B.bl;obtain⟨b,M⟩:∃ b,c[n.toNat]?=⇑b:=⟨_,nT ∅⟩;let F:=ar b (mC M);let⟨yz,LR,F⟩:=hR.same B.sm;let⟨R,Eg,hI⟩:=F.get' (i:=n.toNat) (b:=aL b) (by rw[kB,M];rfl);let⟨ai,Ss,rfl,F,R⟩:=id hI;let R:=rL b []
 let F:oU yz n=⇑↥ai:=by
  let z:=dh Eg;rw[show ((n.toNat:Nat):Int)=n by lia]at z;exact z
 exists Y,Y,W,Q,V,bJ.of X,an;refine⟨Y,Y,N,Q,V,bJ.of LR,F,ai,aL b,1,hI,?_,λz N F s4 nz=>?_⟩
 ·show ↑(b.foldl bL [])<=_;simp only[oq]at R;lia
 rw[iU]at F;let R:↑(fj b)<=↑b:=List.length_filterMap_le _ b;let ak:=s4 _ _ B.hS;let ax:=s4 _ _ X;refine⟨z,1,⟨_,bJ.of F⟩,λab cO=>gv (K:=bV) (h:=z) (a:=(fj b).map V.int) (λi v r=>∃ J:Option V,v=[J,⇑↥S]/\r ab=⇑(.lst ((((fj b).take i).filter (λy=>(cE a (Sum.inl y)).isNone)).map V.int))/\aJ N r) ⟨none,1,af,ao cO _⟩ (by rintro i v r _ ⟨_,_,_,l⟩;exact bJ.of (l _ _ F)) ?_ ?_⟩
 ·rintro i x v r I ⟨J,rfl,p,l⟩;rw[kB]at I;let⟨y,o,rfl⟩:=Option.map_eq_some_iff.mp I;let d:=take_snoc o
  let o:↑(((fj b).take i).filter (λy=>(cE a (Sum.inl y)).isNone))<=1000:=by
   let z:=List.length_filter_le (λy=>(cE a (Sum.inl y)).isNone) ((fj b).take i);rw[gI]at z;lia
  exists Y,Y,S,Y,gu.k (k:=Sum.inl y) (l _ _ ak),Y
  cases g:cE a (Sum.inl y) with
  | none =>
   refine iK ⟨Y,_,p,(by rw[b8];exact aQ ∅),Y,?_,bQ cO l (aI ab _ _)⟩;rw[af,d,List.filter_append,List.filter_cons_of_pos (p:=λy=>(cE a (Sum.inl y)).isNone) (by rw[g];rfl),gm];rfl
  | some u =>
   refine fT ⟨Y,?_,l⟩;rw[d,List.filter_append,List.filter_cons_of_neg (p:=λy=>(cE a (Sum.inl y)).isNone) (by rw[g];exact gP),List.filter_nil,ir];exact p
 rintro v r ⟨J,rfl,p,l⟩;rw[b8,gQ]at p;let am:=l _ _ ak;let ae:=l _ _ ax;let ag:=B.sm.trans (s4.trans l);let U:=B.kl;exists Y,_,.inl ⟨_,bJ.of p,1⟩
 cases em:(fj b).filter (λy=>(cE a (Sum.inl y)).isNone) with
 | nil =>
  refine fT ?_
  let ay:∀ y,jX c n y->y∈m:=by
   rintro y ⟨_,l,d,g⟩;rw[M]at d;cases d;rw[← C5 B.ky];let z:=List.filter_eq_nil_iff.mp em y g;unfold seen
   cases q:cE a (Sum.inl y) with
   | none=>rw[q]at z;exact absurd rfl z
   | some u=>rfl
  refine⟨Y,Y,S,Y,wD.k (k:=Sum.inl n) am (aQ ∅),?_⟩;let l:(aO r S (.dK (dX a (Sum.inl n) (.bl true)))) W=⇑(.lst ((e++f++[n]).map V.int)):=by rw[aN G];exact ae
  refine⟨Y,.inl ⟨1,_,bJ.of l⟩,W,_,.int n,V,l,(by simp),?_⟩;let l:((e++f++[n]).map V.int).dropLast=(e++f).map V.int:=by rw[gm (l₁:=e++f),List.map_singleton,List.dropLast_concat]
  rw[l];let ap:∀ x∈e++f,0<=x/\x<↑c:=λx d=>B.rg x (by rw[t.eq];exact nC _ d)
  cases j:cE a (Sum.inl n) with
  | none =>
   let l:=Gi (n:=↑c) (.bl true) n0 n1 j;refine⟨100*nY ↑c (dX a (Sum.inl n) (.bl true))+(e.length+50-↑f),by lia,e,f,m++[n],dX a (Sum.inl n) (.bl true),E,1,⟨af,(by rw[aN G.symm,af]),bQ T (bQ O ag (aI S _ _)) (aI W _ _),?_,B.tp.snoc n0 n1 ay,ap,λx d=>?_,t.pw,t.rb,λs o=>?_,?_,by lia⟩,1⟩
   ·rw[vt _ j,gm,B.ky,gm];rfl
   ·intro q;rcases (Gh _).mp q with g|g
    ·exact (t.ns x d).2 g
    ·exact (t.ns x d).1 g
   ·rcases t.st s o with q|q|q
    ·exact .inl q
    ·exact .inr (by rw[q];simp)
    ·exact .inr (nC _ q)
   ·rw[vt _ j,cY,iA]at *;lia
  | some u =>
   let sn:seen a n:=by unfold seen;rw[j];rfl
   let l:=t.old sn
   let sp:∀ x,seen (dX a (Sum.inl n) (.bl true)) x↔seen a x:=λx=>by
    rw[Gh];exact⟨λz=>z.elim (λg=>by rw[g];exact sn) id,.inr⟩
   let ms:nY ↑c (dX a (Sum.inl n) (.bl true))=nY ↑c a:=by
    refine PN _ λi _=>?_;have z:=sp (i:Int);unfold seen at z
    cases o:cE (dX a (Sum.inl n) (.bl true)) (Sum.inl (i:Int)) with
    | none =>
     cases g:cE a (Sum.inl (i:Int)) with
     | none=>rfl
     | some q=>rw[o,g]at z;exact absurd (z.mpr rfl) gP
    | some l =>
     cases g:cE a (Sum.inl (i:Int)) with
     | none=>rw[o,g]at z;exact absurd (z.mp rfl) gP
     | some q=>rfl
   let g:n∈m:=(C5 B.ky n).mp sn;refine⟨100*nY ↑c (dX a (Sum.inl n) (.bl true))+(e.length+50-↑f),by rw[ms];lia,e,f,m,dX a (Sum.inl n) (.bl true),E,1,⟨af,(by rw[aN G.symm,af]),bQ T (bQ O ag (aI S _ _)) (aI W _ _),?_,B.tp,ap,λx d q=>(t.ns x d).1 ((sp x).mp q),t.pw,t.rb,λs o=>?_,?_,by lia⟩,1⟩
   ·rw[C6 _ (by rw[j];rfl),B.ky]
   ·rcases t.st s o with q|q|q
    ·exact .inl q
    ·exact .inr (by rw[q];exact g)
    ·exact .inr q
   ·let z:=congrArg List.length (C6 (a:=a) (k:=Sum.inl n) (.bl true) (by rw[j];rfl));rw[b8,b8]at z;rw[z,ms];exact U
 | cons y j =>
  refine iK ?_;rw[em]at p;let i:y∈(fj b).filter (λy=>(cE a (Sum.inl y)).isNone):=by rw[em];simp
  let⟨l,g⟩:=List.mem_filter.mp i;let i:jX c n y:=⟨n0,b,M,l⟩;let⟨y0,y1⟩:=pV.Fg i;let⟨ap,o⟩:=t.up y (as y) (yx n y i);let wl:=congrArg List.length t.eq;rw[cY]at wl;refine⟨Y,.inl ⟨1,_,bJ.of ae⟩,Y,ab,Q,V,bJ.of p,dh (a:=V.int y::j.map V.int) (j:=0) rfl,W,Z,ae,(by rw[b8,← wl];exact aQ ∅),?_⟩;let b:=JM o;rw[cY,iA]at b;refine⟨100*nY ↑c a+(↑w+50-↑(C++[y])),?_,w,C++[y],m,a,E,1,⟨(by rw[af,← j4,t.eq,gm (l₁:=e++f++[n])];rfl),(by rw[aN G.symm];exact am),bQ T ag (aI W _ _),B.ky,B.tp,λx d=>?_,λx d=>?_,ap,o,B.st,U,aw⟩,1⟩
  ·rw[cY,iA];lia
  ·rw[← j4]at d;rcases List.mem_append.mp d with q|q
   ·exact B.rg x q
   ·have:x=y:=by simpa using q
    subst this;exact⟨y0,y1⟩
  ·rcases List.mem_append.mp d with q|q
   ·exact B.ns x q
   ·have:x=y:=by simpa using q
    subst this;intro q;unfold seen at q
    cases bf:cE a (Sum.inl x) with
    | none=>rw[bf]at q;cases q
    | some u=>rw[bf]at g;cases g
structure oo(rows:dD)(H:Hp)(W S:Addr)(s:Int)(H2:Hp)(vs:List V)(wl:dD)(kvs:List (eG × V)):Prop where
 hW:H2 W=⇑(.lst vs)
 hl:cP (gw (λa=>a=W\/a=S) H2) vs wl
 hS:H2 S=⇑(.dK kvs)
 sm:aJ H H2
 wk:∀ w∈wl,↑w<=↑kvs+1/\∃ e,w.getLast?=⇑e/\0<=e/\e<↑rows/\(e=s\/Reach (jX rows) s e)
 kl:↑kvs+nY ↑rows kvs<=↑rows
class inductive WC
 | mk (r:Addr) (a:dD) (s g:Int) (_:vs=[↥r,.int s,.int g]) (_:iC H r (a.map aL)) (_:↑a<=1000) (_:(∀ c∈a,↑c<=1000)) (_:gZ a) (_:0<=s) (_:s<↑a) (_:¬ Reach (jX a) s g) (_:∀ b,aJ H b->Q .gc b)
def fe(n:Nat)(W a:Addr):_L2.St->Hp->Nat:=λ_ H=>match H W,H a with
 | some (.lst b),some (.dK c)=>2*nY n c+↑b
 | _,_=>0
def Qu{n:Nat}{W a:Addr}{d:_L2.St}{H:Hp}{b:List V}{c:List (eG × V)}(e:H W=⇑(.lst b))(f:H a=⇑(.dK c)):fe n W a d H=2*nY n c+↑b:=by
 unfold fe;rw[e,f]
def WD(a:dD)(H:Hp)(r W b:Addr)(s g:Int)(e:_L2.St)(f:Hp):Prop:=∃ (c:List V) (h:dD) (d:List (eG × V)) (u v:Option V),e=[⇑↥r,⇑(.int s),⇑(.int g),⇑↥W,⇑↥b,u,v]/\oo a H W b s f c h d/\↑c+2*nY ↑a d<=2*↑a+1
theorem Aw:‹(2,22,["n","i","goal"],WC)›:=λD=>by
 specialize eZ ["n","i","goal","ways","seen","way","number"] D.k0.F;let⟨x,c,s,C,rfl,hR,eT,ar,pV,h0,h1,nr,kN⟩:=h;let U:=gM hr;refine⟨_,#v[aY 3 (bM #[bM #[1]]),aY 4 kT,qD PassesOwn.never (jG (pv 3) (λ_=>rfl)) #v[aY 5 (dZ oS PySem.F.slot_list_pop PySem.F.type_list_pop O2 (pv 3) #[az]),eO PassesOwn.never rfl (cC (aF D.Ym (Av D) hr #[aR bK (pv 0) (aR bK (pv 5) (iE gf az))])) (bW 6) #v[bN (aV eV (pv 6) (pv 2) (bz _)) #v[aK (bG iZ (pv 5) (bM #[2]))] bu,bN (DA (CM U (pv 6) (pv 4))) #v[nK U (pv 4) (pv 6) nG rfl,aT (dZ oS jE jF bX (pv 3) #[bG iZ (pv 5) (bM #[6])])] bu]],aK Xf],?_⟩
 rfl'
 refine⟨Y,mh,λp U=>⟨mh,λW u=>?_⟩⟩;intro S r;let X:aJ H (aO H p (.lst [.int s])):=ao U _;let s2:=X.trans (ao u (.lst [↥p]));let s3:=s2.trans (ao r (.dK []))
 let UA:H W=none:=by
  cases e:H W with
  | none=>rfl
  | some o=>exact absurd ((X _ _ e).symm.trans u) (by simp)
 let as:H S=none:=by
  cases e:H S with
  | none=>rfl
  | some o=>exact absurd ((s2 _ _ e).symm.trans r) (by simp)
 let J:W≠S:=aB af r;let U:p≠W:=aB af u;let X:p≠S:=aB (ao u _ _ _ af) r;exists λab m k=>ab=fe ↑c W S m k/\WD c H x W S s C m k,⟨Y,?_⟩
 ·let b:=Aj ↑c (λF=>(cE ([]:List (eG × V)) (Sum.inl (F:Int))).isNone);refine⟨[↥p],[[s]],[],none,none,1,⟨ao r _ _ _ af,.cons ⟨p,1,(λz=>z.elim U X),ao r _ _ _ (ao u _ _ _ af)⟩ .nil,af,s3,?_,?_⟩,?_⟩
  ·intro bf a;have:bf=[s]:=by simpa using a
   subst this;exact⟨by simp,s,1,h0,h1,.inl rfl⟩
  ·show 0+nY ↑c []<=↑c;unfold nY;lia
  ·show 1+2*nY ↑c []<=_;unfold nY;lia
 ·rintro ab m k ⟨rfl,vs,wl,w,a7,v,rfl,B,ae⟩;rw[Qu B.hW B.hS];exists Y,!vs.isEmpty,.inl ⟨vs,bJ.of B.hW,1⟩
  cases vs with
  | nil =>
   exact fT (kN k B.sm)
  | cons u i =>
   refine iK ⟨fun p r=>WD c H x W S s C p r/\fe ↑c W S p r<2*nY ↑c w+↑(u::i),fun p r ⟨p,r⟩=>⟨_,r,1,p⟩,?_⟩;let⟨ag,yt,X7,av,ai,aw⟩:=id B
   cases yt with
   | @cons _ w0 _ b ak f =>
   let⟨n,rfl,ax,ay⟩:=id ak;let⟨r,e,p,e0,u,aA⟩:=ai w0 (by simp)
   let aH:∃ j,w0=j++[e]:=by
    rw[List.getLast?_eq_some_iff]at p;exact p
   let⟨j,rfl⟩:=aH;obtain⟨d,L⟩:∃ d,c[e.toNat]?=⇑d:=⟨_,nT ∅⟩;let p:d∈c:=mC L;let r:=ar d p;exists Y,.inl ⟨1,_,bJ.of ag⟩,W,_,0,0,↥n,V,ag,by decide,by decide,(by simp[seqIndex?]),1;let ee:(V.ref n::i).eraseIdx 0=i:=rfl;rw[ee];let am:∀ {v:V} {ns:Wp},gw (λa=>a=W\/a=S) k v ns->gw (λa=>a=W\/a=S) (aO k W (.lst i)) v ns:=λh=>h.at _ (.inl rfl);have Qv:aJ H (aO k W (.lst i)):=bQ UA av (aI W _ _);let⟨r,Iv,p⟩:=hR.same Qv;let⟨r,Eg,hI⟩:=p.get' (i:=e.toNat) (b:=aL d) (by rw[kB,L];rfl);let⟨aS,Ss,rfl,p,r⟩:=id hI
   let a1:(aO k W (.lst i)) n=⇑(.lst (j.map V.int++[.int e])):=by
    rw[aN (λz=>ax (.inl z)),ay,gm];rfl
   let B:=rL d [];refine⟨Y,Y,Y,n,Q,V,bJ.of a1,gX _ _,x,Q,V,bJ.of Iv,?_,aS,aL d,1,hI,?_,λz U r p u=>?_⟩
   ·let z:=dh Eg;rw[show ((e.toNat:Nat):Int)=e by lia]at z;exact z
   ·show ↑(d.foldl bL [])<=_;simp only[oq]at B;lia
   rw[iU]at r;let B:(aO k W (.lst i)) W=⇑(.lst i):=af;let U:(aO k W (.lst i)) S=⇑(.dK w):=by rw[aN J.symm];exact X7
   let k:z≠W:=(aB B u).symm;let X:z≠S:=(aB U u).symm;let u:↑(fj d)<=↑d:=List.length_filterMap_le _ d;refine⟨z,1,⟨_,bJ.of r⟩,dG (K:=bV) (e:=z) (b:=(fj d).map V.int) (λF m f=>∃ (l:List V) (t:dD) (b:List (eG × V)) (v:Option V),m=[⇑↥x,⇑(.int s),⇑(.int C),⇑↥W,⇑↥S,⇑↥n,v]/\ oo c H W S s f l t b/\gw (λa=>a=W\/a=S) f ↥n (j++[e])/\gw (λa=>a=W\/a=S) f ↥z (fj d)/\l.length+2*nY ↑c b<=i.length+2*nY ↑c w/\↑w<=↑b) ?_ ?_ ?_ ?_⟩
   ·refine⟨i,b,w,Y,⟨p _ _ B,f.mono λ_ _ h=>(am h).same p,p _ _ U,Qv.trans p,λbf a=>ai bf (j0 _ a),aw⟩,(am ak).same p,⟨z,1,λq=>q.elim k X,r⟩,fF _,fF _⟩
   ·rintro F m f _ ⟨_,_,_,_,_,_,_,⟨a,b,_,g⟩,_⟩;cases b;exact bJ.of g
   ·rintro F a8 m f hi ⟨l,t,b,v,rfl,g,G,M,ZN,an⟩;rw[kB]at hi;let⟨y,ey,rfl⟩:=Option.map_eq_some_iff.mp hi;let N:jX c e y:=⟨e0,d,L,mC ey⟩;let⟨y0,y1⟩:=pV.Fg N
    let sy:Reach (jX c) s y:=by
     rcases aA with rfl|q
     ·exact .one N
     ·exact .step q N
    let⟨d,a2,a3,a4⟩:=id G;cases a2;let a5:↑(j++[e])<=2000:=by have:=g.kl;lia
    refine⟨Y,Y,1,Y,dO (λd=>?_) (λd=>?_)⟩
    ·let a:y=C:=V.int.inj (of_decide_eq_true d);exact absurd (a ▸ sy) nr
    ·exists Y,Y,S,Y,gu.k (k:=Sum.inl y) g.hS,Y
     cases ev:cE b (Sum.inl y) with
     | some a =>
      refine fT ?_;exact⟨l,t,b,Y,g,G,M,ZN,an⟩
     | none =>
      refine iK ?_;let d:=g.kl;refine⟨Y,Y,S,Y,wD.k (k:=Sum.inl y) g.hS (aQ ∅),?_⟩;let e6:∀ {v:V} {ns:Wp},gw (λa=>a=W\/a=S) f v ns->gw (λa=>a=W\/a=S) (aO f S (.dK (dX b (Sum.inl y) (.bl true)))) v ns:=λh=>h.at _ (.inr rfl);have s6:aJ H (aO f S (.dK (dX b (Sum.inl y) (.bl true)))):=bQ as g.sm (aI S _ _);have I:(aO f S (.dK (dX b (Sum.inl y) (.bl true)))) W=⇑(.lst l):=by rw[aN J];exact g.hW
      let ap:(aO f S (.dK (dX b (Sum.inl y) (.bl true)))) n=⇑(.lst ((j++[e]).map V.int)):=by rw[aN (λq=>a3 (.inr q))];exact a4
      let O:(aO f S (.dK (dX b (Sum.inl y) (.bl true)))) S=⇑(.dK (dX b (Sum.inl y) (.bl true))):=af;generalize aO f S (.dK (dX b (Sum.inl y) (.bl true)))=i at e6 s6 I ap O;let r:l.length<sizeLine:=aQ (by simp only[kH]at ae;lia);refine⟨Y,.inl ⟨1,_,bJ.of I⟩,Y,Y,mh,λk p=>⟨n,k,Z,ao p _ _ _ ap,af,gV (aQ (by rw[b8];simp at a5 ⊢;lia)),λo d=>⟨W,Z,ao d _ _ _ (ao p _ _ _ I),r,?_⟩⟩⟩;let n:aJ i (aO i k (.lst [.int y])):=ao p _;let R:=n.trans (ao d (.lst ((j++[e]).map V.int++[.int y])));let aq:o≠W:=(aB (n _ _ I) d).symm;let a6:o≠S:=(aB (n _ _ O) d).symm;let T:∀ {v:V} {ns:Wp},gw (λa=>a=W\/a=S) f v ns->gw (λa=>a=W\/a=S) (aO (aO (aO i k (.lst [.int y])) o (.lst ((j++[e]).map V.int++[.int y]))) W (.lst (l++[↥o]))) v ns:=λh=>((e6 h).same R).at _ (.inl rfl);have d:=Gi (n:=↑c) (.bl true) y0 y1 ev;have pl:↑(dX b (Sum.inl y) (.bl true))=↑b+1:=by rw[vt _ ev];simp
      exists l++[↥o],t++[j++[e]++[y]],dX b (Sum.inl y) (.bl true),Y,⟨af,cP.snoc (g.hl.mono λ_ _ h=>T h) ⟨o,1,λq=>q.elim aq a6,?_⟩,?_,bQ UA (s6.trans R) (aI W _ _),?_,?_⟩,T G,T M,?_
      ·rw[aN aq,af,gm (l₁:=j++[e])];rfl
      ·rw[aN J.symm];exact R _ _ O
      ·intro bf a;rcases List.mem_append.mp a with q|q
       ·let⟨c,a⟩:=g.wk bf q;exact⟨by lia,a⟩
       ·have:bf=j++[e]++[y]:=by simpa using q
        subst this;refine⟨?_,y,by simp,y0,y1,.inr sy⟩;rw[cY,iA,pl];lia
      ·lia
      ·rw[cY,iA];lia
      ·lia
   ·rintro m f ⟨l,t,b,v,rfl,g,G,M,ZN,an⟩;simp only[kH]at ae;refine⟨⟨l,t,b,E,1,g,by lia⟩,?_⟩;rw[Qu g.hW g.hS,kH];lia
class inductive YL
 | mk (r:Addr) (s:Int) (_:vs=[↥r,.int s]) (_:WC [↥r,.int s,.int s] H Q E)
theorem UD:‹(3,23,["n","g"],YL)›:=λD=>by
 specialize eZ ["n","g"] D.k'.F;let⟨r,s0,rfl,h⟩:=h;exists _,#v[aK (aF D.k0 (Aw D) hr #[0,1,1])]
 rfl'
 exists Y,Y,Y;let⟨l,a,m,n,e,b,c,d,f,g,i,j,k⟩:=h;cases e;exact⟨r,a,s0,s0,1,b,c,d,f,g,i,j,k⟩
def kX(f:Int->Int)(a:Wp):Int:=(a.map λe=>if e<0 then 1+f (-1-e) else 1).sum
def Eh(f:Int->Int):aX->Int
 | .win n=>1+f n
 | .aC a b=>b-a
def GD(f:Int->Int)(a:List aX):Int:=(a.map (Eh f)).sum
def ng(f:Int->Int)(a b:List aX):GD f (a++b)=GD f a+GD f b:=by unfold GD;rw[gm,List.sum_append]
def Qw(f:Int->Int)(t:List aX)(e:Int):GD f (bL t e)=GD f t+(if e<0 then 1+f (-1-e) else 1):=by
 unfold bL;by_cases h:e<0
 ·rw[if_pos h,if_pos h,ng];simp[GD,Eh]
 ·rw[if_neg h,if_neg h];rcases lY t with rfl|⟨c,l,rfl⟩
  ·simp[GD,Eh];lia
  ·rw[j3,mQ]
   cases l with
   | win n =>
    show GD f (c++[aX.win n]++[.aC e (e+1)])=_;rw[ng];simp[GD,Eh];lia
   | aC a b =>
    show GD f (if b=e then (c++[aX.aC a b]).dropLast++[.aC a (e+1)] else (c++[aX.aC a b])++[.aC e (e+1)])=_;by_cases c:b=e
    ·rw[if_pos c,List.dropLast_concat,ng,ng];simp[GD,Eh];lia
    ·rw[if_neg c,ng];simp[GD,Eh];lia
def Nt(f:Int->Int)(a:Wp):GD f (aL a)=kX f a:=by
 let z:∀ t:List aX,GD f (a.foldl bL t)=GD f t+kX f a:=by
  induction a with
  | nil=>intro t;simp[kX]
  | cons e a b =>
   intro t;rw[j5,b,Qw];unfold kX;rw[iu,List.sum_cons];lia
 have:=z [];unfold aL;rw[this];simp[GD]
def Weighs(b:dD)(f:Int->Int):Prop:=∀ (x:Int) (a:Wp),0<=x->b[x.toNat]?=⇑a->f x=kX f a
def wF(a:dD):Nat->Int->Int
 | 0,_=>0
 | k+1,x=>match a[x.toNat]? with
  | some es=>kX (wF a k) es
  | none=>0
def JN{f g:Int->Int}{a:Wp}(h:∀ y∈fj a,f y=g y):kX f a=kX g a:=by
 unfold kX;congr 1;refine uN λe b=>?_;by_cases c:e<0
 ·rw[if_pos c,if_pos c,h (-1-e) (cR.mpr ⟨by lia,by rw[show -1-(-1-e)=e by lia];exact b⟩)]
 ·rw[if_neg c,if_neg c]
def Nu{a:dD}(h:DU a):∃ f,Weighs a f:=by
 let⟨b,g,i⟩:=h
 let j:∀ (k:Nat) (x:Int),0<=x->b x<k->wF a k x=wF a (k+1) x:=by
  intro k
  induction k with
  | zero=>intro x _ h;lia
  | succ k l =>
   intro x c b
   cases e:a[x.toNat]? with
   | none=>simp[wF,e]
   | some b =>
    let d:wF a (k+1) x=kX (wF a k) b:=by simp[wF,e]
    let m:wF a (k+1+1) x=kX (wF a (k+1)) b:=by
     show (match a[x.toNat]? with|some b=>kX (wF a (k+1)) b|none=>0)=_;rw[e]
    rw[d,m];refine JN λy d=>l y (cR.mp d).1 ?_;have:=i x y ⟨c,b,e,d⟩;lia
 refine⟨wF a 41,λx b c d=>?_⟩;rw[j 41 x c (by have:=g x;lia)];show (match a[x.toNat]? with|some b=>kX (wF a 41) b|none=>0)=_;rw[d]
class inductive vu
 | mk (v:V) (a:aX) (b:Addr) (c:List (eG × V)) (f:Int->Int) (_:vs=[v,↥b]) (_:d7 H v a) (_:H b=⇑(.dK c)) (_:(∀ n,a=.win n->cE c (Sum.inl n)=⇑(.int (f n)))) (_:Q (.int (Eh f a)) H)
theorem Ax:‹(1,24,["Z","0"],vu)›:=λD=>by
 specialize eZ ["Z","0"] D.lj.F;let⟨v,it,S,c,f,rfl,⟨a,rfl,b⟩,hS,hw,k⟩:=h;let c:=gM hr;exists _,#v[bN (aV eV (aR bh (pv 0) az) bw (bz _)) #v[aK (bG dY az (fK c (pv 1) (aR bh (pv 0) az)))] bu,aK (bG dH (aR bh (pv 0) az) (aR bh (pv 0) az))]
 rfl'
 cases it with
 | win n =>
  refine⟨Y,a,Q,V,dN.of b,V,Y,dO (λ_=>?_) (λz=>absurd (by decide) z)⟩;let z:=gu.k (k:=Sum.inl n) hS;rw[hw n rfl]at z;exact⟨Y,Y,a,Q,V,dN.of b,1,S,Y,z,Z,k⟩
 | aC p q =>
  refine⟨Y,a,Q,V,dN.of b,V,Y,dO (λz=>absurd z (by decide)) (λ_=>?_)⟩;exact⟨Y,a,Q,V,dN.of b,1,Y,a,Q,V,dN.of b,1,Z,k⟩
class inductive JO
 | mk (r L:Addr) (a:dD) (b:Wp) (f:Int->Int) (_:vs=[↥r,↥L]) (_:iC H r (a.map aL)) (_:H L=⇑(.lst (b.map V.int))) (_:↑b<=1000) (_:↑a<=1000) (_:(∀ g∈a,↑g<=1000)) (_:gZ a) (_:DU a) (_:(∀ s∈b,0<=s/\s<↑a)) (_:Weighs a f) (_ :
 ∀ (c:Addr) (e:List (eG × V)) (d:Hp),d c=⇑(.dK e)->(∀ s∈b,cE e (Sum.inl s)=⇑(.int (f s)))->aJ H d->H c=none->Q ↥c d)
theorem wV:‹(3,25,["n","G"],JO)›:=λD=>by
 specialize eZ ["n","G","0","number"] D.lq.F;let⟨I,N,O,w,f,rfl,R,U,ab,eT,T,pV,yx,ae,hf,ag⟩:=h;let hu:=gM hr;refine⟨_,#v[aY 2 kT,eO PassesOwn.never rfl (cC (aF D.Yn (GC D) hr #[0,1])) (bW 3) #v[nK hu (pv 2) (pv 3) (cA (FY rfl) rfl D.T.Qg PyProof.Rows.boot_sum #[gO (N:=["Z","0"]) (jJ (c:=b9 mU) (f:=["n","G","0","number"]) (d:=[none,some 2]) rfl rfl rfl nofun nofun rfl nofun rfl nofun) rfl (cC (aR bK (pv 0) (pv 3))) (λ_ _ _ _ _ _=>(bW 0)) (λ_ _ _ _ _ _=>gU) (λ_ _ _ _ _ _=>(aF D.lj (Ax D) hr #[0,1]))]) rfl],aK (pv 2)],?_⟩
 rfl'
 intro S r;let t:aJ H (aO H S (.dK [])):=ao r _;refine⟨Y,Y,I,N,O,w,1,R.same t,t _ _ U,ab,eT,T,pV,yx,ae,λv w H2 U J W sk kl ab=>?_⟩;let X7:=J _ _ (af (H:=H) (a:=S) (o:=.dK []));let ae:w≠S:=(aB af ab).symm;refine⟨w,1,⟨_,bJ.of U⟩,dG (K:=bV) (e:=w) (b:=v.map V.int) (λk b g=>∃ (c:List (eG × V)) (u:Option V),b=[⇑↥I,⇑↥N,⇑↥S,u]/\g S=⇑(.dK c)/\(∀ y∈v.take k,cE c (Sum.inl y)=⇑(.int (f y)))/\↑c<=k/\(∀ d i,d≠S->H2 d=⇑i->g d=⇑i)) ⟨[],none,1,X7,(λy z=>by simp at z),fF _,λ_ _ _ e=>e⟩ ?_ ?_ ?_⟩
 ·rintro k b g _ ⟨_,_,_,_,_,_,l⟩;exact bJ.of (l w _ ae U)
 ·rintro k x b g X ⟨c,u,rfl,B,m,ai,l⟩;rw[kB]at X;let⟨x,o,rfl⟩:=Option.map_eq_some_iff.mp X;let⟨x0,w⟩:=W.Fq x (mC o);obtain⟨a,C⟩:∃ a,O[x.toNat]?=⇑a:=⟨_,nT ∅⟩;let w:=T a (mC C);let w:aJ H g:=λd i e=>l d i (aB e r) (J _ _ (t _ _ e));let⟨yz,Iv,N⟩:=R.same w;let⟨w,Eg,hI⟩:=N.get' (i:=x.toNat) (b:=aL a) (by rw[kB,C];rfl);let⟨L,Ss,rfl,w,ud⟩:=id hI;have N:=rL a []
  let O:↑(aL a)<=1000:=by
   show ↑(a.foldl bL [])<=_;simp only[oq]at N;lia
  let N:oU yz x=⇑↥L:=by
   let q:=dh Eg;rw[show ((x.toNat:Nat):Int)=x by lia]at q;exact q
  refine⟨Y,Y,I,Q,V,bJ.of Iv,N,L,1,⟨_,bJ.of w⟩,λM cO=>gv (K:=bV) (h:=L) (a:=Ss) (λq b p=>∃ u:Option V,b=[u,⇑↥S]/\p M=⇑(.lst ((((aL a).take q).map (Eh f)).map V.int))/\aJ g p) ⟨none,1,af,ao cO _⟩ (λq b p _ ⟨Q,j⟩=>bJ.of (j _ _ w)) ?_ ?_⟩
  ·rintro q z b p G ⟨u,rfl,F,j⟩;let⟨q,y,w⟩:=ud.get G;let st:=take_snoc y;unfold qC MT;refine iK ⟨Y,Y,z,q,S,c,f,1,w.same j,j _ _ B,λn hn=>?_,?_⟩
   ·subst hn;refine m n (W.dn k x o n ⟨x0,a,C,?_⟩);rw[← iU];unfold gg;rw[List.mem_filterMap];exact⟨.win n,mC y,1⟩
   ·refine⟨_,F,(by rw[b8,b8,gI];exact aQ ∅),Y,?_,bQ cO j (aI M _ _)⟩;rw[af,st,gm,gm];rfl
  ·rintro b p ⟨u,rfl,F,j⟩;rw[ud.len,gQ]at F;let ak:((aL a).map (Eh f)).sum=f x:=by rw[hf x a x0 C];exact Nt f a
   let am:=j _ _ B
   let a:k<↑v:=by
    rcases Nat.lt_or_ge k ↑v with q|q
    ·exact q
    ·rw[List.getElem?_eq_none q]at o;cases o
   exists M,Y,bJ.of F;rw[ak];refine⟨Y,Y,S,Y,wD.k (k:=Sum.inl x) am (aQ ∅),?_⟩;refine⟨dX c (Sum.inl x) (.int (f x)),Y,af,λy z=>?_,?_,λd i n e=>?_⟩
   ·rw[kQ];rw[take_snoc o]at z;by_cases G:y=x
    ·rw[if_pos (by rw[G]),G]
    ·rw[if_neg (λq=>G (Sum.inl.inj q))];rcases List.mem_append.mp z with q|q
     ·exact m y q
     ·exact absurd (by simpa using q) G
   ·have:=iL c (Sum.inl x) (V.int (f x));lia
   ·rw[aN n];exact j _ _ (l d i n e)
 ·rintro b g ⟨c,u,rfl,B,m,ai,l⟩;rw[b8,gQ]at m;exact⟨Y,ag S c g B (λs a=>m s (sk s a)) (λd i e=>l d i (aB e r) (J _ _ (t _ _ e))) r⟩
def pW(g:Int->Row):aX->Row
 | .win n=>g n
 | .aC a b=>[(a,b)]
def bq(a:Y2)(e:Int):Wp:=if e<0 then a (-1-e) else [e]
def aW(a:Y2)(b:Wp):Wp:=b.flatMap (bq a)
def nh(c:dD)(a:Y2):Prop:=∀ (x:Int) (b:Wp),0<=x->c[x.toNat]?=⇑b->a x=aW a b
def bI(a:Y2)(b:List aX):Row:=b.flatMap (pW λn=>cy (a n))
def tM(t:List aX):Prop:=∀ a b,aX.aC a b∈t->a<b
def fG(a:Y2)(b c:List aX):bI a (b++c)=bI a b++bI a c:=by unfold bI;rw[List.flatMap_append]
def jy(a:Y2)(b:aX):bI a [b]=pW (λn=>cy (a n)) b:=by simp[bI]
def Nv(c:Y2)(t:List aX)(e:Int)(d:tM t):bg (bI c (bL t e))=bg (bI c t)++bq c e/\tM (bL t e):=by
 let i:∀ j:aX,(∀ a b,j=.aC a b->a<b)->tM (t++[j]):=λj h a b k=>by
  rcases List.mem_append.mp k with z|z
  ·exact d a b z
  ·exact h a b (List.mem_singleton.mp z).symm
 unfold bL;by_cases h:e<0
 ·rw[if_pos h];refine⟨?_,i _ λa b z=>by cases z⟩;rw[fG,cZ,jy];show _++bg (cy (c (-1-e)))=_;rw[dm];unfold bq;rw[if_pos h]
 ·rw[if_neg h]
  let n:bg [(e,e+1)]=[e]:=by
   rw[fQ];unfold gG;have:(e+1-e).toNat=1:=by lia
   show run e (e+1-e).toNat=_;rw[this];rfl
  let l:bq c e=[e]:=by unfold bq;rw[if_neg h]
  let f:bg (bI c (t++[.aC e (e+1)]))=bg (bI c t)++bq c e/\tM (t++[.aC e (e+1)]):=by
   refine⟨?_,i _ λa b z=>by cases z;lia⟩;rw[fG,cZ,jy,l];show _++bg [(e,e+1)]=_;rw[n]
  rcases lY t with rfl|⟨g,o,rfl⟩
  ·exact f
  ·rw[j3]at d i f ⊢;rw[mQ]
   cases o with
   | win n=>exact f
   | aC a b =>
    show bg (bI c (if b=e then (g++[aX.aC a b]).dropLast++[.aC a (e+1)] else (g++[aX.aC a b])++[.aC e (e+1)]))=_/\tM (if b=e then (g++[aX.aC a b]).dropLast++[.aC a (e+1)] else (g++[aX.aC a b])++[.aC e (e+1)]);by_cases m:b=e
    ·subst m;let g:=d a b (by simp);rw[if_pos rfl,List.dropLast_concat];refine⟨?_,λp q k=>?_⟩
     ·rw[fG,fG,cZ,cZ,jy,jy,l,j4];congr 1;show bg [(a,b+1)]=bg [(a,b)]++[b];rw[fQ,fQ];unfold gG;show run a (b+1-a).toNat=run a (b-a).toNat++[b];have:(b+1-a).toNat=(b-a).toNat+1:=by lia
      rw[this,oH];congr 2;lia
     ·rcases List.mem_append.mp k with z|z
      ·exact d p q (nC _ z)
      ·let r:aX.aC p q=aX.aC a (b+1):=by simpa using z
       cases r;lia
    ·rw[if_neg m];exact f
def Ay(b:Y2)(a:Wp):bg (bI b (aL a))=aW b a/\tM (aL a):=by
 let z:∀ t:List aX,tM t->bg (bI b (a.foldl bL t))=bg (bI b t)++aW b a/\tM (a.foldl bL t):=by
  induction a with
  | nil=>intro t c;exact⟨by simp[aW],c⟩
  | cons e a d =>
   intro t c;let⟨f,g⟩:=Nv b t e c;let⟨c,e⟩:=d _ g;refine⟨?_,e⟩;rw[j5,c,f,j4];unfold aW;rw[i7]
 let q:=z [] (λc d h=>by cases h);refine⟨?_,q.2⟩;unfold aL;rw[q.1];rfl
def Ny(c:Y2)(d:aX)(h:∀ a b,d=.aC a b->a<b):↑(pW (λn=>cy (c n)) d)<=↑(bg (pW (λn=>cy (c n)) d)):=by
 cases d with
 | win n =>
  show ↑(cy (c n))<=↑(bg (cy (c n)));rw[dm];let z:=zY (c n) [];simpa [cy] using z
 | aC a b =>
  let e:=h a b rfl;show 1<=↑(bg [(a,b)]);rw[fQ];unfold gG;show 1<=↑(run a (b-a).toNat);rw[LJ];lia
theorem uz(a:Y2):∀ b:List aX,tM b->↑(bI a b)<=↑(bg (bI a b))
 | [],_=>by simp[bI]
 | it::b,h=>by
  let e:bI a (it::b)=pW (λn=>cy (a n)) it++bI a b:=by unfold bI;rw[i7]
  rw[e,cZ,cY,cY];let c:=Ny a it (λc d z=>h c d (by rw[← z];simp));let d:=uz a b (λc d z=>h c d (j0 _ z));lia
def Nz(f:Y2)(c:List aX)(h:tM c):∀ p∈bI f c,p.1<=p.2:=by
 intro p d;unfold bI at d;let⟨g,i,e⟩:=List.mem_flatMap.mp d
 cases g with
 | win n=>exact jf _ p e
 | aC a b =>
  have:p=(a,b):=by simpa [pW] using e
  subst this;have:=h a b i;show a<=b;lia
class inductive NB
 | mk (v:V) (b:aX) (e:Addr) (c:List (eG × V)) (g:Int->Row) (_:vs=[v,↥e]) (_:d7 H v b) (_:H e=⇑(.dK c)) (_:(∀ n,b=.win n->∃ a,cE c (Sum.inl n)=⇑↥a/\bU H a (g n))) (_ :
 ∀ (a:Addr) (d:Hp),bU d a (pW g b)->aJ H d->((∃ n,b=.win n/\cE c (Sum.inl n)=⇑↥a)\/H a=none)->Q ↥a d)
theorem yg:‹(1,26,["Z","A"],NB)›:=λD=>by
 specialize eZ ["Z","A"] D.Yo.F;let⟨v,it,S,e,g,rfl,⟨a,rfl,b⟩,hS,hw,k⟩:=h;let e:=gM hr;exists _,#v[bN (aV eV (aR bh (pv 0) az) bw (bz _)) #v[aK (fK e (pv 1) (aR bh (pv 0) az))] bu,aK (bM #[c9 #[aR bh (pv 0) az,aR bh (pv 0) az]])]
 rfl'
 cases it with
 | win n =>
  refine⟨Y,a,Q,V,dN.of b,V,Y,dO (λ_=>?_) (λz=>absurd (by decide) z)⟩;let⟨d,c,f⟩:=hw n rfl;let z:=gu.k (k:=Sum.inl n) hS;rw[c]at z;exact⟨Y,Y,a,Q,V,dN.of b,1,S,Y,z,k d H f (aJ.refl H) (.inl ⟨n,1,c⟩)⟩
 | aC p q =>
  refine⟨Y,a,Q,V,dN.of b,V,Y,dO (λz=>absurd z (by decide)) (λ_=>?_)⟩;refine⟨Y,a,Q,V,dN.of b,1,Y,a,Q,V,dN.of b,1,mj,λt a=>⟨mh,λl c=>?_⟩⟩;let d:aJ H (aO H t (.tup [.int p,.int q])):=ao a _;let a:=d.trans (ao c (.lst [↥t]));refine k l _ ⟨[t],af,.cons ?_ .nil⟩ a (.inr ?_)
  ·exact ao c _ _ _ af
  ·cases f:H l with
   | none=>rfl
   | some o=>exact absurd ((d _ _ f).symm.trans c) (by simp)
theorem bx.GF{H c:Hp}{d:Addr}{h:List (eG × V)}(e:H d=⇑(.dK h))(k:∀ a f,a≠d->H a=⇑f->c a=⇑f):∀ {g:WF} {r:Row},bx H g r->bx c g r
 | _,_,.nil=>.nil
 | _,_,.cons r t=>.cons (k _ _ (λz=>by
   let b:=r;unfold ki at b;rw[z,e]at b
   cases b) r) (bx.GF e k t)
def bU.GF{H c:Hp}{b a:Addr}{f:List (eG × V)}{d:Row}(g:H b=⇑(.dK f))(n:a≠b)(k:∀ a e,a≠b->H a=⇑e->c a=⇑e)(h:bU H a d):bU c a d:=by
 let⟨i,j,p⟩:=h;exact⟨i,k _ _ n j,p.GF g k⟩
def LS(H:Hp)(b:List (eG × V))(c:Y2)(d:Wp):Prop:=∀ x∈d,∃ a,cE b (Sum.inl x)=⇑↥a/\bU H a (cy (c x))
class inductive UE
 | mk (r L:Addr) (b:dD) (c:Wp) (f:Y2) (_:vs=[↥r,↥L]) (_:iC H r (b.map aL)) (_:H L=⇑(.lst (c.map V.int))) (_:↑c<=1000) (_:↑b<=1000) (_:(∀ i∈b,↑i<=1000)) (_:gZ b) (_:DU b) (_:(∀ s∈c,0<=s/\s<↑b)) (_:nh b f) (_:(∀ x:Int,0<=x->x<↑b->↑(f x)<=10000)) (_ :
 ∀ (g:Addr) (h:List (eG × V)) (d:Wp) (e:Hp),e g=⇑(.dK h)->LS e h f d->Nq b d->(∀ s∈c,s∈d)->(∀ x∈d,∀ a,cE h (Sum.inl x)=⇑↥a->H a=none)->aJ H e->H g=none->Q ↥g e)
theorem jP:‹(3,27,["n","G"],UE)›:=λD=>by
 specialize eZ ["n","G","A","number"] D.Qh.F;let⟨ag,ak,am,ss,b,rfl,hR,hL,aw,eT,ax,pV,yx,ay,xO,Fi,aA⟩:=h;let hu:=gM hr;refine⟨_,#v[aY 2 kT,eO PassesOwn.never rfl (cC (aF D.Yn (GC D) hr #[0,1])) (bW 3) #v[nK hu (pv 2) (pv 3) (aF D.Yh (oM D) hr #[wL (N:=["Z","stretch","A"]) (jJ (c:=b9 o7) (f:=["n","G","A","number"]) (d:=[none,none,some 2]) rfl rfl rfl nofun nofun rfl nofun rfl nofun) rfl (cC (aR bK (pv 0) (pv 3))) (λ_ _ _ _ _ _=>(bW 0)) (λ_ _ _ _ _ _=>gU) (λ_ _ _ _ _ _=>(Gb (aF D.Yo (yg D) hr #[0,2]))) (λ_ _ _ _ _ _=>(bW 1)) (λ_ _ _ _ _ _=>gU) (λ_ _ _ _ _ _=>(pv 1))]) rfl],aK (pv 2)],?_⟩
 rfl'
 intro S U;let W:aJ H (aO H S (.dK [])):=ao U _;refine⟨Y,Y,ag,ak,am,ss,1,hR.same W,W _ _ hL,aw,eT,ax,pV,yx,ay,λG X H2 ho s2 tp sk kl aw=>?_⟩;let X7:=s2 _ _ (af (H:=H) (a:=S) (o:=.dK []));let aH:X≠S:=(aB af aw).symm;refine⟨X,1,⟨_,bJ.of ho⟩,dG (K:=bV) (e:=X) (b:=G.map V.int) (λr f m=>∃ (i:List (eG × V)) (u:Option V),f=[⇑↥ag,⇑↥ak,⇑↥S,u]/\m S=⇑(.dK i)/\LS m i b (G.take r)/\↑i<=r/\(∀ x a,cE i (Sum.inl x)=⇑↥a->H a=none/\a≠S)/\(∀ a d,a≠S->H2 a=⇑d->m a=⇑d)) ⟨[],none,1,X7,(λy t=>by simp at t),fF _,(λx a e=>by cases e),λ_ _ _ e=>e⟩ ?_ ?_ ?_⟩
 ·rintro r f m _ ⟨_,_,_,_,_,_,_,v⟩;exact bJ.of (v X _ aH ho)
 ·rintro r x f m hi ⟨i,u,rfl,I,w,aS,YM,v⟩;rw[kB]at hi;let⟨x,B,rfl⟩:=Option.map_eq_some_iff.mp hi;let⟨x0,x1⟩:=tp.Fq x (mC B);obtain⟨c,gj⟩:∃ c,am[x.toNat]?=⇑c:=⟨_,nT ∅⟩;let Qv:aJ H m:=λa d e=>v a d (aB e U) (s2 _ _ (W _ _ e));let⟨yz,Iv,X⟩:=hR.same Qv;let⟨vi,Eg,hI⟩:=X.get' (i:=x.toNat) (b:=aL c) (by rw[kB,gj];rfl);let⟨ai,Ss,rfl,X,ud⟩:=id hI;let⟨MH,an⟩:=Ay b c;have ap:=xO x c x0 gj
  let jm:↑(bI b (aL c))<=10000:=by
   let z:=uz b (aL c) an;rw[MH,← ap]at z;have:=Fi x x0 x1;lia
  let a0:∀ j,↑(bI b ((aL c).take j))<=10000:=λj=>by
   let e:bI b (aL c)=bI b ((aL c).take j)++bI b ((aL c).drop j):=by rw[← fG,List.take_append_drop]
   rw[e,cY]at jm;lia
  let vK:oU yz x=⇑↥ai:=by
   let z:=dh Eg;rw[show ((x.toNat:Nat):Int)=x by lia]at z;exact z
  refine⟨Y,Y,ag,Q,V,bJ.of Iv,vK,ai,1,⟨_,bJ.of X⟩,λk cO=>qS (K:=bV) (f:=ai) (a:=Ss) (λj f C=>∃ (u ab:Option V) (o:WF),f=[u,ab,⇑↥S]/\C k=⇑(.lst (o.map V.ref))/\bx C o (bI b ((aL c).take j))/\aJ m C) ⟨none,none,[],1,af,.nil,ao cO _⟩ (λj f C _ ⟨Q,Q,g⟩=>bJ.of (g _ _ X)) ?_ ?_⟩
  ·rintro j ab f C hj ⟨u,u2,o,rfl,h5,J,g⟩;let⟨it,ei,X⟩:=ud.get hj;let st:bI b ((aL c).take (j+1))=bI b ((aL c).take j)++pW (λn=>cy (b n)) it:=by rw[take_snoc ei,fG,jy]
   refine TL ?_;refine iK ?_;refine⟨Y,Y,ab,it,S,i,(λn=>cy (b n)),1,X.same g,g _ _ I,λn L=>?_,λa2 M R6 s a1=>?_⟩
   ·subst L
    let⟨a,l,F⟩:=w n (tp.dn r x B n ⟨x0,c,gj,by
     rw[← iU];unfold gg;rw[List.mem_filterMap]
     exact⟨.win n,mC ei,1⟩⟩)
    exact⟨a,l,F.same g⟩
   let⟨t,aq,p6⟩:=id R6
   let a3:a2≠k:=by
    rcases a1 with ⟨n,L,p⟩|L
    ·subst L
     let⟨a,l,y,q,_⟩:=w n (tp.dn r x B n ⟨x0,c,gj,by
      rw[← iU];unfold gg;rw[List.mem_filterMap]
      exact⟨.win n,mC ei,1⟩⟩)
     rw[p]at l;cases l;exact aB q cO
    ·exact (aB h5 L).symm
   let h6:=s _ _ h5;let L:=a0 (j+1);rw[st,cY]at L;let L:=J.len;let a4:=p6.len;refine⟨a2,1,⟨_,bJ.of aq⟩,Ah (K:=bV) (j:=a2) (o:=k) (t:=qC 1) (tt:=MT) (u:=SJ 1) (b:=t.map V.ref) (λp f l=>∃ v2:Option V,f=[⇑ab,v2,⇑↥S]/\l k=⇑(.lst ((o++t.take p).map V.ref))/\bx l (o++t.take p) (bI b ((aL c).take j)++(pW (λn=>cy (b n)) it).take p)/\cD k M l/\aJ m l) ?_ ?_ ?_ ?_⟩
   ·exact⟨u2,1,(by simpa using h6),(by simpa using J.same s),(λ_ _ e _=>e),g.trans s⟩
   ·rintro p f l _ ⟨_,_,_,_,N,_⟩;exact bJ.of (N a2 _ aq a3)
   ·rintro p y f l hl ⟨v2,rfl,F,O,N,s7⟩;rw[kB]at hl;let⟨ae,R,rfl⟩:=Option.map_eq_some_iff.mp hl;let⟨T,a5,ar⟩:=p6.get R
    let j:p<t.length:=by
     rcases Nat.lt_or_ge p t.length with q|q
     ·exact q
     ·rw[List.getElem?_eq_none q]at R;cases R
    let av:ki l ae T:=N ae _ ar (λz=>by
     let q:M k=⇑(.tup [.int T.1,.int T.2]):=by rw[← z];exact ar
     rw[h6]at q
     cases q)
    let K8:cD k l (aO l k (.lst ((o++t.take p).map V.ref++[↥ae]))):=aI k _ _;refine TL ?_;refine iK ?_;refine⟨Y,_,F,?_,Y,?_,?_,?_,bQ cO s7 K8⟩
    ·rw[b8,cY,gI];exact aQ ∅
    ·rw[af,take_snoc R,← j4,gm (l₁:=o++t.take p)];rfl
    ·rw[take_snoc R,take_snoc a5,← j4,← j4]
     exact bx.snoc (O.keep F K8) (K8 ae _ av (λz=>by
      let q:l k=⇑(.tup [.int T.1,.int T.2]):=by rw[← z];exact av
      rw[F]at q
      cases q))
    ·exact λa d e n=>K8 a d (N a d e n) n
   ·rintro f l ⟨v2,rfl,F,O,N,s7⟩;rw[b8,gQ]at F O;rw[a4,gQ]at O;exact⟨Q,1,F,(by rw[st];exact O),s7⟩
  ·rintro f C ⟨u,u2,o,rfl,h5,J,g⟩;rw[ud.len,gQ]at J
   let j:r<↑G:=by
    rcases Nat.lt_or_ge r ↑G with q|q
    ·exact q
    ·rw[List.getElem?_eq_none q]at B;cases B
   refine⟨k,Y,⟨o,h5,J⟩,by lia,λq M R6 s O=>?_⟩;let L:=s _ _ (g _ _ I);let R:q≠S:=(aB (g _ _ I) O).symm;let j:cJ (bI b (aL c))=cy (b x):=by rw[oG _ (Nz b _ an),MH,ap]
   rw[j]at R6;let N:∀ a d,a≠S->M a=⇑d->aO M S (.dK (dX i (Sum.inl x) ↥q)) a=⇑d:=λa d n e=>by rw[aN n];exact e
   refine⟨Y,Y,S,Y,wD.k (k:=Sum.inl x) L (aQ ∅),?_⟩;refine⟨dX i (Sum.inl x) ↥q,Y,af,λy t=>?_,?_,λy a e=>?_,λa d n e=>N a d n (s _ _ (g _ _ (v a d n e)))⟩
   ·rw[kQ];by_cases p:y=x
    ·rw[if_pos (by rw[p]),p];exact⟨q,1,R6.GF L R N⟩
    ·rw[if_neg (λz=>p (Sum.inl.inj z))];rw[take_snoc B]at t;rcases List.mem_append.mp t with z|z
     ·let⟨a,l,F⟩:=w y z;exact⟨a,l,((F.same g).same s).GF L (YM y a l).2 N⟩
     ·exact absurd (by simpa using z) p
   ·have:=iL i (Sum.inl x) (V.ref q);lia
   ·rw[kQ]at e;by_cases p:y=x
    ·rw[if_pos (by rw[p])]at e;cases e;refine⟨?_,R⟩
     cases z:H q with
     | none=>rfl
     | some d=>exact absurd ((g _ _ (Qv _ _ z)).symm.trans O) (by simp)
    ·rw[if_neg (λz=>p (Sum.inl.inj z))]at e;exact YM y a e
 ·rintro f m ⟨i,u,rfl,I,w,aS,YM,v⟩;rw[b8,gQ]at w;exact⟨Y,aA S i G m I w tp sk (λx _ a e=>(YM x a e).1) (λa d e=>v a d (aB e U) (s2 _ _ (W _ _ e))) U⟩
class inductive UG
 | mk (r:Addr) (a:dD) (s:Int) (b:Y2) (_:vs=[↥r,.int s]) (_:iC H r (a.map aL)) (_:↑a<=1000) (_:(∀ d∈a,↑d<=1000)) (_:gZ a) (_:DU a) (_:0<=s) (_:s<↑a) (_:nh a b) (_:(∀ x:Int,0<=x->x<↑a->↑(b x)<=10000)) (_ :
 ∀ (o:Addr) (c:Hp),bU c o (cy (b s))->aJ H c->H o=none->Q ↥o c)
theorem GG:‹(4,28,["n","g"],UG)›:=λD=>by
 specialize eZ ["n","g"] D.Qi.F;let⟨r,a,s,c,rfl,d,e,f,g,i,j,k,l,m,n⟩:=h;let b:=gM hr;exists _,#v[aK (fK b (aF D.Qh (jP D) hr #[0,bM #[1]]) (pv 1))]
 rfl'
 refine⟨Y,Y,mh,λL o=>?_⟩;let b:aJ H (aO H L (.lst [.int s])):=ao o _;refine⟨r,L,a,[s],c,1,d.same b,af,(by simp),e,f,g,i,(λx a=>by rw[List.mem_singleton.mp a];exact⟨j,k⟩),l,m,λS c d e f g k a i j _=>?_⟩;let a:=a s (by simp);let⟨c,d,k⟩:=g s a;let z:=gu.k (k:=Sum.inl s) f;rw[d]at z;exact⟨Y,S,Y,z,n c e k (b.trans j) (aU b (i s a c d))⟩
def YO:aX->aX->Bool
 | .aC _ b,.aC c _=>decide (b=c)
 | _,_=>false
class inductive YQ
 | mk (x y:V) (i j:aX) (_:vs=[x,y]) (_:d7 H x i) (_:d7 H y j) (_:Q (.bl (YO i j)) H)
theorem JP:‹(1,29,["one","6"],YQ)›:=λD=>by
 specialize eZ ["one","6"] D.lw.F;let⟨x,y,i,j,rfl,⟨a,rfl,b⟩,⟨c,rfl,d⟩,k⟩:=h;exists _,#v[aK (oX (kC eV (aR bh (pv 0) az) bw (bz _)) (oX (kC eV (aR bh (pv 1) az) bw (bz _)) (qA (kC eV (aR bh (pv 0) az) (aR bh (pv 1) az) (bz _)))))]
 rfl'
 cases i with
 | win n=>exact⟨Y,a,Q,V,dN.of b,V,Y,dO (λz=>absurd z (by decide)) (λ_=>k)⟩
 | aC p q =>
  refine⟨Y,a,Q,V,dN.of b,V,Y,dO (λ_=>?_) (λz=>absurd (by decide) z)⟩
  cases j with
  | win n=>exact⟨Y,c,Q,V,dN.of d,V,Y,dO (λz=>absurd z (by decide)) (λ_=>k)⟩
  | aC u v =>
   refine⟨Y,c,Q,V,dN.of d,V,Y,dO (λ_=>?_) (λz=>absurd (by decide) z)⟩;exists Y,a,Q,V,dN.of b,1,Y,c,Q,V,dN.of d,V
   let e:decide (V.int q=V.int u)=decide (q=u):=by
    by_cases c:q=u
    ·rw[c];simp
    ·let a:¬ V.int q=V.int u:=λz=>c (V.int.inj z);rw[decide_eq_false c,decide_eq_false a]
   rw[e];exact k
def cu(t:List aX)(c:aX):List aX :=
 match t.getLast?,c with
 | some (.aC a b),.aC d e=>if b=d then t.dropLast++[.aC a e] else t++[c]
 | _,_=>t++[c]
def JQ(a:List aX):List aX:=a.foldl cu []
def JR(a:List aX):∀ t:List aX,↑(a.foldl cu t)<=↑t+↑a:=by
 induction a with
 | nil=>intro t;simp
 | cons e a b =>
  intro t;rw[j5];let z:=b (cu t e)
  let b:↑(cu t e)<=↑t+1:=by
   unfold cu;split
   ·split
    ·rw[cY,List.length_dropLast,iA];lia
    ·simp
   ·simp
  rw[kH];lia
class inductive Ei
 | mk (r:Addr) (a:List aX) (_:vs=[↥r]) (_:ck H ↥r a) (_:↑a<=1000000) (_ :
 ∀ (o:Addr) (b:Hp),ck b ↥o (JQ a)->aJ H b->H o=none->Q ↥o b)
theorem iO:‹(2,30,["l"],Ei)›:=λD=>by
 refine eZ ["l","told","Z"] D.Nj.F λdc A zn s H vs Q E hr _ h=>?_;let⟨r,c,rfl,⟨U,L,u,C,F⟩,W,k⟩:=h;cases u;refine⟨_,#v[aY 1 (bM ah),eO PassesOwn.never rfl (cC (pv 0)) (bW 2) #v[bN (PW.pt (oW (jG (pv 1) (λ_=>rfl)) (lZ (jq (aF D.lw (JP D) hr #[aR bK (pv 1) (iE gf az),2]))))) #v[mS (c9 #[bw,aR bh (aR bK (pv 1) (iE gf az)) az,aR bh (pv 2) az]) (oY (pv 1) (iE gf az) jH)] #v[aT (dZ oS jE jF bX (pv 1) #[2])]],aK (pv 1)],?_⟩
 rfl'
 refine⟨iz,λq l=>?_⟩;let s0:aJ H (aO H q (.lst [])):=ao l _;refine⟨Y,r,1,⟨_,bJ.of (s0 _ _ C)⟩,dG (K:=bV) (e:=r) (b:=L) (λi m b=>∃ (vs:List V) (v:Option V),m=[⇑↥r,⇑↥q,v]/\b q=⇑(.lst vs)/\cP (d7 b) vs ((c.take i).foldl cu [])/\aJ H b) ⟨[],none,1,af,.nil,s0⟩ (by rintro i m b _ ⟨_,_,_,_,_,s⟩;exact bJ.of (s _ _ C)) ?_ ?_⟩
 ·rintro i x m b M ⟨vs,v,rfl,a,e,s⟩;let⟨f,C,L⟩:=F.get M;let w:=L.same s;let step:(c.take (i+1)).foldl cu []=cu ((c.take i).foldl cu []) f:=by rw[take_snoc C,List.foldl_append];rfl
  let n:↑vs<sizeLine:=by
   let z:=e.len;let d:=JR (c.take i) [];rw[gI,oq]at d;exact aQ ∅
  let o:cu ((c.take i).foldl cu []) f=(c.take i).foldl cu []++[f]->∃ (C:List V) (L:Option V),[⇑(V.ref r),⇑↥q,⇑x]=[⇑↥r,⇑↥q,L]/\(aO b q (.lst (vs++[x]))) q=⇑(.lst C)/\cP (d7 (aO b q (.lst (vs++[x])))) C ((c.take (i+1)).foldl cu [])/\aJ H (aO b q (.lst (vs++[x]))):=λu=>by
   refine⟨E,1,af,?_,bQ l s (aI q _ _)⟩;rw[step,u];exact cP.snoc (e.mono λd i h=>h.keep a (aI q _ _)) (w.keep a (aI q _ _))
  rcases lY ((c.take i).foldl cu []) with d|⟨y,G,d⟩
  ·let g:vs=[]:=by
    rw[d]at e;exact List.eq_nil_of_length_eq_zero e.len
   subst g;refine⟨Y,false,.inl ⟨_,bJ.of a,1⟩,fT (fT ?_)⟩;refine⟨Y,.inl ⟨1,_,bJ.of a⟩,Y,q,Z,a,n,o ?_⟩;rw[d];rfl
  ·rw[j3]at d;let I:=e;rw[d]at I;let⟨N,X,rfl,O,J⟩:=I.split;let⟨R,rfl,S⟩:=id J;refine⟨Y,true,.inl ⟨_,bJ.of a,by simp⟩,iK ?_⟩;exists Y,Y,q,Q,V,bJ.of a,gX _ _,Y,E,G,f,1,J,w,Y
   cases G with
   | win j =>
    refine fT ?_;refine⟨Y,.inl ⟨1,_,bJ.of a⟩,Y,q,Z,a,n,o ?_⟩;rw[d];unfold cu;rw[mQ]
   | aC p g =>
    cases f with
    | win j =>
     refine fT ?_;refine⟨Y,.inl ⟨1,_,bJ.of a⟩,Y,q,Z,a,n,o ?_⟩;rw[d];unfold cu;rw[mQ]
    | aC j t =>
     refine dO (λz=>?_) (λz=>?_)
     ·let B:g=j:=of_decide_eq_true z;let⟨T,rfl,f⟩:=id w;refine⟨Y,Y,q,Q,V,bJ.of a,gX _ _,R,Q,V,dN.of S,1,Y,T,Q,V,dN.of f,1,Qf,λr f=>?_⟩;refine⟨Y,Y,q,E,↑N,V,ao f _ _ _ a,(by rw[cY];exact F1 _),?_⟩;rw[zU];refine⟨E,1,af,?_,bQ l (s.trans (ao f _)) (aI q _ _)⟩
      let r:(c.take (i+1)).foldl cu []=y++[.aC p t]:=by
       rw[step,d];unfold cu;rw[mQ,List.dropLast_concat];show (if g=j then y++[aX.aC p t] else _)=_;rw[if_pos B]
      rw[r];exact cP.new (it:=.aC p t) a O f _
     ·let B:¬ g=j:=λbf=>z (decide_eq_true bf);refine⟨Y,.inl ⟨1,_,bJ.of a⟩,Y,q,Z,a,n,o ?_⟩;rw[d];unfold cu;rw[mQ];show (if g=j then _ else y++[aX.aC p g]++[aX.aC j t])=_;rw[if_neg B]
 ·rintro m b ⟨vs,v,rfl,a,e,s⟩;rw[F.len,gQ]at e;exact⟨Y,k q b ⟨q,vs,1,a,e⟩ s l⟩
def dz(r:Row):List aX:=r.map λp=>.aC p.1 p.2
class inductive UH
 | mk (r:Addr) (a:Row) (_:vs=[↥r]) (_:bU H r a) (_:↑a<=100000) (_ :
 ∀ (o:Addr) (b:Hp),ck b ↥o (dz (cJ a))->aJ H b->H o=none->Q ↥o b)
theorem nj:‹(2,31,["j"],UH)›:=λD=>by
 specialize eZ ["j"] D.Gs.F;let⟨m,b,rfl,R,q,s⟩:=h;refine⟨_,#v[aK (gO (N:=["i","o"]) (jJ (c:=b9 Je) (f:=["j"]) (d:=[none,none]) rfl rfl rfl nofun nofun rfl nofun rfl nofun) rfl (cC (aF D.Yh (oM D) hr #[0])) (λ_ _ _ _ _ _=>(rK (n:=2) rfl (bR (bW 0) (bR (bW 1) gB)))) (λ_ _ _ _ _ _=>gU) (λ_ _ _ _ _ _=>(c9 #[bw,0,1])))],?_⟩
 rfl'
 refine⟨Y,m,b,1,R,by lia,λq t w l m=>?_⟩;let⟨x,m,n⟩:=id w;let w:=iT b;refine⟨q,1,⟨_,bJ.of m⟩,λc g=>gv (K:=bV) (h:=q) (a:=x.map V.ref) (λi e a=>∃ (u v:Option V) (vs:List V),e=[u,v]/\a c=⇑(.lst vs)/\cP (d7 a) vs (dz ((cJ b).take i))/\aJ t a) ⟨none,none,[],1,af,.nil,ao g _⟩ (by rintro i e a _ ⟨_,_,_,_,_,_,s0⟩;exact bJ.of (s0 _ _ m)) ?_ ?_⟩
 ·rintro i B e a o ⟨u,v,vs,rfl,f,d,s0⟩;rw[kB]at o;let⟨y,z,rfl⟩:=Option.map_eq_some_iff.mp o;let⟨⟨p,r⟩,o,q⟩:=n.get z;let m:=d.len;unfold dz at m;rw[b8,gI]at m;refine⟨y,Y,dN.of (s0 _ _ q),1,E,1,Z,yes (iK ?_)⟩;refine⟨Y,Y,Qf,λt j=>?_⟩;refine⟨vs,ao j _ _ _ f,aQ ∅,Q,1,af,?_,bQ g (s0.trans (ao j _)) (aI c _ _)⟩
  let k:dz ((cJ b).take (i+1))=dz ((cJ b).take i)++[.aC p r]:=by
   rw[take_snoc o];unfold dz;rw[gm];rfl
  rw[k];exact cP.new (it:=.aC p r) f d j _
 ·rintro e a ⟨u,v,vs,rfl,f,d,s0⟩;rw[b8,n.len,gQ]at d;refine s c a ⟨c,vs,1,f,d⟩ (l.trans s0) ?_
  cases k:H c with
  | none=>rfl
  | some o=>exact absurd ((l _ _ k).symm.trans g) (by simp)
def gx:aX->List Int
 | .win n=>[-1-n]
 | .aC a b=>run a (b-a).toNat
def d9(a:List aX):Wp:=a.flatMap gx
def lU:aX->Prop
 | .win n=>0<=n
 | .aC a b=>0<=a/\a<b
def gH(a:List aX):Prop:=∀ b∈a,lU b
def gp(a b:List aX):d9 (a++b)=d9 a++d9 b:=by unfold d9;rw[List.flatMap_append]
def kY(a:aX):d9 [a]=gx a:=by simp[d9]
theorem gH.append{a b:List aX}(h:gH a)(g:gH b):gH (a++b):=λc d=>(List.mem_append.mp d).elim (h c) (g c)
theorem gH.one{a:aX}(h:lU a):gH [a]:=λc b=>by rw[List.mem_singleton.mp b];exact h
def Qx(t:List aX){n:Int}(h:0<=n):bL t (-1-n)=t++[.win n]:=by
 unfold bL;rw[if_pos ∅];congr 3;lia
def NC(t:List aX)(p s:Int)(h:0<=s):bL (t++[.aC p s]) s=t++[.aC p (s+1)]:=by
 unfold bL;rw[if_neg ∅,mQ];show (if s=s then (t++[aX.aC p s]).dropLast++[.aC p (s+1)] else _)=_;rw[if_pos rfl,List.dropLast_concat]
theorem C7(t:List aX)(p:Int):∀ (n:Nat) (s:Int),0<=s->(run s n).foldl bL (t++[.aC p s])=t++[.aC p (s+n)]
 | 0,s,_=>by simp[run]
 | n+1,s,h=>by
  rw[run,j5,NC t p s h,C7 t p n (s+1) ∅];congr 3;lia
def JS(t:List aX)(c:aX)(h:lU c):cu t c=(gx c).foldl bL t:=by
 cases c with
 | win n =>
  show cu t (.win n)=bL t (-1-n);rw[Qx t h];unfold cu
  cases t.getLast? with
  | none=>rfl
  | some l=>cases l <;> rfl
 | aC a b =>
  let⟨e,f⟩:=h;let e:(b-a).toNat=(b-(a+1)).toNat+1:=by lia
  show cu t (.aC a b)=(run a (b-a).toNat).foldl bL t;rw[e,run,j5]
  let d:∀ (u:List aX) (p:Int),(run (a+1) (b-(a+1)).toNat).foldl bL (u++[.aC p (a+1)])=u++[.aC p b]:=λu p=>by
   rw[C7 u p _ _ ∅];congr 3;lia
  unfold cu bL;rw[if_neg ∅]
  cases t.getLast? with
  | none=>exact (d t a).symm
  | some l =>
   cases l with
   | win n=>exact (d t a).symm
   | aC p q =>
    show (if q=a then t.dropLast++[aX.aC p b] else t++[aX.aC a b])=List.foldl bL (if q=a then t.dropLast++[aX.aC p (a+1)] else t++[aX.aC a (a+1)]) _;by_cases e:q=a
    ·rw[if_pos e,if_pos e,d]
    ·rw[if_neg e,if_neg e,d]
def kZ(a:List aX)(h:gH a):JQ a=aL (d9 a):=by
 unfold JQ aL d9;rw[m7]
 let z:∀ (a:List aX) (t:List aX),gH a->a.foldl cu t=a.foldl (λc b=>(gx b).foldl bL c) t:=by
  intro a
  induction a with
  | nil=>intro t _;rfl
  | cons it a b =>
   intro t h;rw[j5,j5,JS t it (h it (by simp))];exact b _ λi b=>h i (j0 _ b)
 exact z a [] h
def ND(t:List aX)(e:Int)(h:gH t):d9 (bL t e)=d9 t++[e]/\gH (bL t e):=by
 unfold bL;by_cases f:e<0
 ·rw[if_pos f,gp,kY];refine⟨?_,h.append (gH.one (by show 0<=-1-e;lia))⟩;show d9 t++[-1-(-1-e)]=_;rw[show -1-(-1-e)=e by lia]
 ·rw[if_neg f]
  let c:d9 (t++[.aC e (e+1)])=d9 t++[e]/\gH (t++[.aC e (e+1)]):=by
   refine⟨?_,h.append (gH.one ⟨by lia,by lia⟩)⟩;rw[gp,kY];show _++run e (e+1-e).toNat=_;rw[show (e+1-e).toNat=1 by lia];rfl
  rcases lY t with rfl|⟨d,l,rfl⟩
  ·exact c
  ·rw[j3]at h c ⊢;rw[mQ]
   cases l with
   | win n=>exact c
   | aC a b =>
    show d9 (if b=e then (d++[aX.aC a b]).dropLast++[.aC a (e+1)] else (d++[aX.aC a b])++[.aC e (e+1)])=_/\gH (if b=e then (d++[aX.aC a b]).dropLast++[.aC a (e+1)] else (d++[aX.aC a b])++[.aC e (e+1)]);by_cases g:b=e
    ·subst g;obtain⟨i,d⟩:0<=a/\a<b:=h (.aC a b) (by simp);rw[if_pos rfl,List.dropLast_concat];refine⟨?_,gH.append (λd f=>h d (nC _ f)) (gH.one ⟨i,by lia⟩)⟩;rw[gp,gp,kY,kY,j4];congr 1;show run a (b+1-a).toNat=run a (b-a).toNat++[b];rw[show (b+1-a).toNat=(b-a).toNat+1 by lia,oH];congr 2;lia
    ·rw[if_neg g];exact c
def nk(a:Wp):d9 (aL a)=a/\gH (aL a):=by
 let z:∀ (a:Wp) (t:List aX),gH t->d9 (a.foldl bL t)=d9 t++a/\gH (a.foldl bL t):=by
  intro a
  induction a with
  | nil=>intro t h;exact⟨by simp,h⟩
  | cons e a d =>
   intro t h;let⟨b,c⟩:=ND t e h;let⟨e,f⟩:=d _ c;exact⟨by rw[j5,e,b,j4];rfl,f⟩
 let⟨b,c⟩:=z a [] (λi d=>by cases d);exact⟨by unfold aL;rw[b];rfl,c⟩
def oN(r:Row):d9 (dz r)=bg r:=by
 unfold d9 dz bg;rw[List.flatMap_map];rfl
def vM{r:Row}(h:jK r):gH (dz r):=by
 intro c a;unfold dz at a;let⟨p,b,rfl⟩:=List.mem_map.mp a;exact h p b
def NF{a:Wp}(h:∀ x∈a,0<=x):dz (cy a)=aL a:=by
 let z:∀ (a:Wp) (t:Row),(∀ x∈a,0<=x)->dz (a.foldl (λt n=>iS t n (n+1)) t)=a.foldl bL (dz t):=by
  intro a
  induction a with
  | nil=>intro t _;rfl
  | cons n a c =>
   intro t h;rw[j5,j5,c _ λx c=>h x (j0 _ c)];congr 1;let c:=h n (by simp);unfold iS bL;rw[if_neg ∅];rcases lY t with rfl|⟨b,l,rfl⟩
   ·rfl
   ·rw[j3,mQ];let e:(dz (b++[l])).getLast?=⇑(.aC l.1 l.2):=by unfold dz;rw[gm];exact mQ
    rw[e];show dz (if l.2=n then (b++[l]).dropLast++[(l.1,n+1)] else b++[l]++[(n,n+1)])=if l.2=n then (dz (b++[l])).dropLast++[.aC l.1 (n+1)] else dz (b++[l])++[.aC n (n+1)];by_cases c:l.2=n
    ·rw[if_pos c,if_pos c,List.dropLast_concat];unfold dz;rw[gm,gm];simp
    ·rw[if_neg c,if_neg c];unfold dz;rw[gm];rfl
 exact z a [] h
abbrev nF:=aX × Row × Int × Int
def dI(a:Y2)(b:aX):Row:=pW (λn=>cy (a n)) b
def cz(a:Y2):Int->List aX->List nF
 | _,[]=>[]
 | f,it::r=>(it,dI a it,f,f+jm (dI a it))::cz a (f+jm (dI a it)) r
theorem vN(a:Y2)(c:List aX):∀ (b:List aX) (f:Int),cz a f (b++c)=cz a f b++cz a (f+jm (bI a b)) c
 | [],f=>by simp[cz,bI,jm]
 | it::b,f=>by
  rw[List.cons_append,cz,cz,vN a c b,List.cons_append];let e:bI a (it::b)=dI a it++bI a b:=by unfold bI;rw[i7];rfl
  rw[e,zS,Int.add_assoc]
theorem C8(b:Y2):∀ (a:List aX) (f:Int),↑(cz b f a)=↑a
 | [],_=>rfl
 | _::a,f=>by rw[cz,kH,kH,C8 b a]
def nu(N:Y1)(H:Hp)(v:V)(d:nF):Prop:=∃ (b a:Addr) (x:V),v=↥b/\H b=⇑(.tup [x,↥a,.int d.2.2.1,.int d.2.2.2])/\d7 H x d.1/\bU H a d.2.1/\N a
theorem nu.same{N:Y1}{H a:Hp}{v:V}{d:nF}(s:aJ H a):nu N H v d->nu N a v d:=λ⟨b,c,x,e,h,i,r,n⟩=>⟨b,c,x,e,s _ _ h,i.same s,r.same s,n⟩
theorem nu.keep{N:Y1}{H c:Hp}{v:V}{d:nF}{q:Addr}{f:List V}(b:H q=⇑(.lst f))(g:∀ a,N a->a≠q)(k:cD q H c):nu N H v d->nu N c v d:=λ⟨a,e,x,i,h,j,r,n⟩=>⟨a,e,x,i,k a _ h (by
 intro z;rw[z,b]at h
 cases h),j.keep b k,r.keep b (g e n) k,n⟩
def wW(H:Hp)(b:List (eG × V))(c:Y2)(d:List aX):Prop:=∀ n,aX.win n∈d->∃ a,cE b (Sum.inl n)=⇑↥a/\bU H a (cy (c n))
theorem wW.same{H a:Hp}{b:List (eG × V)}{c:Y2}{d:List aX}(s:aJ H a)(h:wW H b c d):wW a b c d:=λn e=>by
 let⟨f,g,r⟩:=h n e;exact⟨f,g,r.same s⟩
def aD(p:Int)(d:nF):List aX:=if d.2.2.2<=p then [d.1] else if p<=d.2.2.1 then [] else dz (cJ (lF 0 (p-d.2.2.1) 0 d.2.1))
def bD(p:Int)(d:nF):List aX:=if d.2.2.2<=p then [] else if p<=d.2.2.1 then [d.1] else dz (cJ (lF (p-d.2.2.1) (d.2.2.2-d.2.2.1) 0 d.2.1))
def aE(a:Y2)(p:Int):Int->List Int->List Int
 | _,[]=>[]
 | f,e::r=>(if f+↑(bq a e)<=p then [e] else if p<=f then [] else (bq a e).take (p-f).toNat)++aE a p (f+↑(bq a e)) r
def bE(a:Y2)(p:Int):Int->List Int->List Int
 | _,[]=>[]
 | f,e::r=>(if f+↑(bq a e)<=p then [] else if p<=f then [e] else (bq a e).drop (p-f).toNat)++bE a p (f+↑(bq a e)) r
def cF(a:Y2)(e:Int)(r:Wp):aW a (e::r)=bq a e++aW a r:=by unfold aW;rw[i7]
def jQ(a:Y2)(b c:Wp):aW a (b++c)=aW a b++aW a c:=by unfold aW;rw[List.flatMap_append]
theorem wX(a:Y2)(p:Int)(y:Wp):∀ (x:Wp) (f:Int),aE a p f (x++y)=aE a p f x++aE a p (f+↑(aW a x)) y
 | [],f=>by simp[aE,aW]
 | e::x,f=>by
  rw[List.cons_append,aE,aE,wX a p y x,j4,cF,cY,Int.add_assoc]
  push_cast
  rfl
theorem wY(a:Y2)(p:Int)(y:Wp):∀ (x:Wp) (f:Int),bE a p f (x++y)=bE a p f x++bE a p (f+↑(aW a x)) y
 | [],f=>by simp[bE,aW]
 | e::x,f=>by
  rw[List.cons_append,bE,bE,wY a p y x,j4,cF,cY,Int.add_assoc]
  push_cast
  rfl
def rP(a:Y2){e:Int}(h:0<=e):bq a e=[e]:=by unfold bq;rw[if_neg ∅]
theorem mH(b:Y2):∀ (n:Nat) (a:Int),0<=a->aW b (run a n)=run a n
 | 0,_,_=>rfl
 | n+1,a,h=>by rw[run,cF,rP b h,mH b n (a+1) ∅];rfl
theorem Qy(b:Y2)(p:Int):∀ (n:Nat) (a f:Int),0<=a->aE b p f (run a n)=(run a n).take (p-f).toNat
 | 0,_,_,_=>by simp[run,aE]
 | n+1,a,f,h=>by
  rw[run,aE,Qy b p n (a+1) _ ∅,rP b h];show (if f+1<=p then [a] else if p<=f then [] else _)++(run (a+1) n).take (p-(f+1)).toNat=_;by_cases c:f+1<=p
  ·rw[if_pos c,show (p-f).toNat=(p-(f+1)).toNat+1 by lia];rfl
  ·rw[if_neg c,if_pos ∅,show (p-f).toNat=0 by lia,show (p-(f+1)).toNat=0 by lia];rfl
theorem Qz(b:Y2)(p:Int):∀ (n:Nat) (a f:Int),0<=a->bE b p f (run a n)=(run a n).drop (p-f).toNat
 | 0,_,_,_=>by simp[run,bE]
 | n+1,a,f,h=>by
  rw[run,bE,Qz b p n (a+1) _ ∅,rP b h];show (if f+1<=p then [] else if p<=f then [a] else _)++(run (a+1) n).drop (p-(f+1)).toNat=_;by_cases c:f+1<=p
  ·rw[if_pos c,show (p-f).toNat=(p-(f+1)).toNat+1 by lia];rfl
  ·rw[if_neg c,if_pos ∅,show (p-f).toNat=0 by lia,show (p-(f+1)).toNat=0 by lia];rfl
def QA(a:Y2){n:Int}(h:0<=n):bq a (-1-n)=a n:=by
 unfold bq;rw[if_pos ∅,show -1-(-1-n)=n by lia]
def vO(d:Y2)(c:aX)(h:lU c):∀ q∈dI d c,q.1<=q.2:=by
 cases c with
 | win n=>exact jf _
 | aC a b =>
  intro q e;have:q=(a,b):=by simpa [dI,pW] using e
  subst this;have:=h.2;show a<=b;lia
def kq(c:Y2)(d:aX)(h:lU d):bg (dI c d)=aW c (gx d):=by
 cases d with
 | win n =>
  show bg (cy (c n))=aW c [-1-n];rw[dm,cF,QA c h];simp[aW]
 | aC a b =>
  show bg [(a,b)]=aW c (run a (b-a).toNat);rw[fQ,mH c _ _ h.1];rfl
def lg(b:Y2)(a:aX)(h:lU a):jm (dI b a)=↑(aW b (gx a)):=by
 rw[← kq b a h,rE _ (vO b a h)]
def vw(c:Y2)(p f:Int)(d:aX)(h:lU d):d9 (aD p (d,dI c d,f,f+jm (dI c d)))=aE c p f (gx d):=by
 let tt:=lg c d h
 let e:d9 (dz (cJ (lF 0 (p-f) 0 (dI c d))))=(aW c (gx d)).take (p-f).toNat:=by
  rw[oN,pB _ _ _ (vO c d h),kq c d h];rfl
 unfold aD;show d9 (if f+jm (dI c d)<=p then [d] else if p<=f then [] else dz (cJ (lF 0 (p-f) 0 (dI c d))))=_;rw[tt]
 cases d with
 | win n =>
  let g:aW c (gx (.win n))=bq c (-1-n):=by show aW c [-1-n]=_;rw[cF];simp[aW]
  rw[g]at e ⊢;show _=aE c p f [-1-n];rw[aE,aE,ir];split
  ·rfl
  ·split
   ·rfl
   ·exact e
 | aC a b =>
  let g:aW c (gx (.aC a b))=run a (b-a).toNat:=mH c _ _ h.1;rw[g]at e ⊢;show _=aE c p f (run a (b-a).toNat);rw[Qy c p _ _ _ h.1];let g:=fC a (b-a).toNat;split
  ·rename_i i;rw[kY,qv ∅];rfl
  ·split
   ·rename_i i;rw[show (p-f).toNat=0 by lia];rfl
   ·exact e
def vx(c:Y2)(p f:Int)(d:aX)(h:lU d):d9 (bD p (d,dI c d,f,f+jm (dI c d)))=bE c p f (gx d):=by
 let tt:=lg c d h
 let e:d9 (dz (cJ (lF (p-f) (f+jm (dI c d)-f) 0 (dI c d))))=(aW c (gx d)).drop (p-f).toNat:=by
  rw[oN,pB _ _ _ (vO c d h),kq c d h,qv (by rw[tt];lia)]
 unfold bD;show d9 (if f+jm (dI c d)<=p then [] else if p<=f then [d] else dz (cJ (lF (p-f) (f+jm (dI c d)-f) 0 (dI c d))))=_;let i:(f+jm (dI c d)<=p)=(f+↑(aW c (gx d))<=p):=by rw[tt]
 simp only[i]
 cases d with
 | win n =>
  let g:aW c (gx (.win n))=bq c (-1-n):=by show aW c [-1-n]=_;rw[cF];simp[aW]
  rw[g]at e ⊢;show _=bE c p f [-1-n];rw[bE,bE,ir];split
  ·rfl
  ·split
   ·rfl
   ·exact e
 | aC a b =>
  let g:aW c (gx (.aC a b))=run a (b-a).toNat:=mH c _ _ h.1;rw[g]at e ⊢;show _=bE c p f (run a (b-a).toNat);rw[Qz c p _ _ _ h.1];let g:=fC a (b-a).toNat;split
  ·rename_i j;rw[yp ∅];rfl
  ·split
   ·rename_i j;rw[kY,show (p-f).toNat=0 by lia];rfl
   ·exact e
theorem GH(a:Y2)(p:Int):∀ (b:List aX) (f:Int),gH b->d9 ((cz a f b).flatMap (aD p))=aE a p f (d9 b)
 | [],f,_=>rfl
 | it::r,f,h=>by
  let c:=h it (by simp);rw[cz,i7,gp,vw a p f it c,GH a p r _ λi d=>h i (j0 _ d)];let e:d9 (it::r)=gx it++d9 r:=by unfold d9;rw[i7]
  rw[e,wX,lg a it c]
theorem C9(a:Y2)(p:Int):∀ (b:List aX) (f:Int),gH b->d9 ((cz a f b).flatMap (bD p))=bE a p f (d9 b)
 | [],f,_=>rfl
 | it::r,f,h=>by
  let c:=h it (by simp);rw[cz,i7,gp,vx a p f it c,C9 a p r _ λi d=>h i (j0 _ d)];let e:d9 (it::r)=gx it++d9 r:=by unfold d9;rw[i7]
  rw[e,wY,lg a it c]
def UI(a:Y2)(b:List aX):Prop:=∀ n,aX.win n∈b->∀ x∈a n,0<=x
def UJ(d:Y2)(c:aX)(h:lU c)(g:∀ n,c=.win n->∀ x∈d n,0<=x):lT (dI d c):=by
 cases c with
 | win n=>exact (CU (g n rfl)).nn
 | aC a b =>
  intro q e;have:q=(a,b):=by simpa [dI,pW] using e
  subst this;exact⟨h.1,by have:=h.2;show a<=b;lia⟩
theorem yT(a:Y2):∀ (c:List aX) (f:Int),gH c->UI a c->∀ d∈cz a f c,lU d.1/\lT d.2.1
 | [],_,_,_=>λd b=>by cases b
 | it::r,f,h,g=>by
  intro d b;rw[cz]at b;rcases List.mem_cons.mp b with rfl|z
  ·exact⟨h it (by simp),UJ a it (h it (by simp)) λn e=>g n (by rw[e];simp)⟩
  ·exact yT a r _ (λi b=>h i (j0 _ b)) (λn b=>g n (j0 _ b)) d z
theorem Az{a b:Int}{r:Row}(h:lT r):gH (dz (cJ (lF a b 0 r))):=vM (oJ (Ak a b r 0 h))
def vy{p:Int}{d:nF}(h:lU d.1)(g:lT d.2.1):gH (aD p d):=by
 unfold aD;split
 ·exact gH.one h
 ·split
  ·exact λi a=>by cases a
  ·exact Az g
def vz{p:Int}{d:nF}(h:lU d.1)(g:lT d.2.1):gH (bD p d):=by
 unfold bD;split
 ·exact λi a=>by cases a
 ·split
  ·exact gH.one h
  ·exact Az g
theorem vP{g:nF->List aX}{l:List nF}(h:∀ d∈l,gH (g d)):gH (l.flatMap g):=λb a=>by
 let⟨d,c,a⟩:=List.mem_flatMap.mp a;exact h d c b a
def yU(r:Row):↑(dz r)=↑r:=by unfold dz;rw[b8]
def rQ(a b:Int)(r:Row):↑(dz (cJ (lF a b 0 r)))<=↑r:=by
 rw[yU];exact iG (iT _) (kj a b r 0)
theorem AA(a:Y2){g:nF->List aX}(c:∀ d,↑(g d)<=↑d.2.1+1):∀ (b:List aX) (f:Int),↑((cz a f b).flatMap g)<=↑(bI a b)+↑b
 | [],_=>by simp[cz]
 | it::r,f=>by
  rw[cz,i7,cY];let e:=c (it,dI a it,f,f+jm (dI a it));let i:=AA a c r (f+jm (dI a it));let h:bI a (it::r)=dI a it++bI a r:=by unfold bI;rw[i7];rfl
  rw[h,cY,kH];simp only at e;lia
def YR(p:Int)(d:nF):↑(aD p d)<=↑d.2.1+1:=by
 unfold aD;split
 ·simp
 ·split
  ·simp
  ·exact iG (rQ _ _ _) ∅
def YS(p:Int)(d:nF):↑(bD p d)<=↑d.2.1+1:=by
 unfold bD;split
 ·simp
 ·split
  ·simp
  ·exact iG (rQ _ _ _) ∅
def iV{a b:Type}(g:a->List b)(l:List a)(i:Nat):↑((l.take i).flatMap g)<=↑(l.flatMap g):=by
 let e:l.flatMap g=(l.take i).flatMap g++(l.drop i).flatMap g:=by rw[← List.flatMap_append,List.take_append_drop]
 rw[e,cY];lia
def rR{a c:Type}(g:a->List c){l:List a}{i:Nat}{b:a}(h:l[i]?=⇑b):(l.take (i+1)).flatMap g=(l.take i).flatMap g++g b:=by
 rw[take_snoc h,List.flatMap_append];simp
def vQ(a:Y2){c:List aX}{b:aX}(h:b∈c):↑(dI a b)<=↑(bI a c):=by
 let⟨f,d,rfl⟩:=List.append_of_mem h;rw[fG];let e:bI a (b::d)=dI a b++bI a d:=by unfold bI;rw[i7];rfl
 rw[e,cY,cY];lia
def LW(A B:Addr)(H b:Hp):Prop:=∀ a o,H a=⇑o->a≠A->a≠B->b a=⇑o
theorem LW.tup{A B:Addr}{H c:Hp}{d e:List V}(k:LW A B H c)(f:H A=⇑(.lst d))(g:H B=⇑(.lst e)):∀ a b,H a=⇑(.tup b)->c a=⇑(.tup b):=λa b h=>k a _ h (λz=>by
 rw[z,f]at h;cases h) (λz=>by
 rw[z,g]at h
 cases h)
theorem d7.tups{H b:Hp}{v:V}{c:aX}(t:∀ a d,H a=⇑(.tup d)->b a=⇑(.tup d)):d7 H v c->d7 b v c:=λ⟨a,e,h⟩=>⟨a,e,t a _ h⟩
theorem nu.WE{N:Y1}{A B:Addr}{H f:Hp}{v:V}{g:nF}{i j:List V}(b:H A=⇑(.lst i))(c:H B=⇑(.lst j))(n:∀ a,N a->a≠A/\a≠B)(k:LW A B H f):nu N H v g->nu N f v g:=λ⟨a,d,x,l,h,m,⟨o,p,q⟩,e⟩ =>
 ⟨a,d,x,l,k.tup b c _ _ h,m.tups (k.tup b c),⟨o,k _ _ p (n d e).1 (n d e).2,q.tups (k.tup b c)⟩,e⟩
def cP.app{b c:Type}{a:b->c->Prop}{d e:List b}{f g:List c}(h:cP a d f)(t:cP a e g):cP a (d++e) (f++g):=by
 induction h with
 | nil=>exact t
 | cons i _ j=>exact .cons i j
structure lX(H1:Hp)(A B:Addr)(l1 l2:List aX)(H2:Hp):Prop where
 a:∃ vs,H2 A=⇑(.lst vs)/\cP (d7 H2) vs l1
 b:∃ vs,H2 B=⇑(.lst vs)/\cP (d7 H2) vs l2
 k:LW A B H1 H2
def lX.same{c d e:Hp}{A B:Addr}{f g:List aX}(p:lX c A B f g d)(s:aJ d e):lX c A B f g e:=by
 let⟨⟨b,h,i⟩,⟨j,l,m⟩,k⟩:=p;exact⟨⟨b,s _ _ h,i.mono λ_ _ h=>h.same s⟩,⟨j,s _ _ l,m.mono λ_ _ h=>h.same s⟩,λa o b n m=>s _ _ (k a o b n m)⟩
def lX.LX{f c:Hp}{A B:Addr}{g h j:List aX}{d e:List V}(p:lX f A B g h c)(n:A≠B)(l:c A=⇑(.lst d))(m:cP (d7 c) e j):lX f A B (g++j) h (aO c A (.lst (d++e))):=by
 let⟨⟨i,b,o⟩,⟨q,r,s⟩,k⟩:=p;rw[l]at b;cases b;let kp:∀ v i,d7 c v i->d7 (aO c A (.lst (d++e))) v i:=λv i b=>b.keep l (aI A _ _);refine⟨⟨_,af,(o.mono kp).app (m.mono kp)⟩,⟨q,by rw[aN n.symm];exact r,s.mono kp⟩,λa o i b q=>?_⟩;rw[aN b];exact k a o i b q
def lX.LY{f c:Hp}{A B:Addr}{g h j:List aX}{d e:List V}(p:lX f A B g h c)(n:A≠B)(l:c B=⇑(.lst d))(m:cP (d7 c) e j):lX f A B g (h++j) (aO c B (.lst (d++e))):=by
 let⟨⟨o,q,r⟩,⟨i,b,s⟩,k⟩:=p;rw[l]at b;cases b;let kp:∀ v i,d7 c v i->d7 (aO c B (.lst (d++e))) v i:=λv i b=>b.keep l (aI B _ _);refine⟨⟨o,by rw[aN n];exact q,r.mono kp⟩,⟨_,af,(s.mono kp).app (m.mono kp)⟩,λa o i q b=>?_⟩;rw[aN b];exact k a o i q b
def oO{b:dD}{c:Y2}(j:gZ b)(l:DU b)(m:nh b c):∀ x:Int,0<=x->x<↑b->∀ y∈c x,0<=y:=by
 let⟨d,a,n⟩:=l
 let o:∀ (k:Nat) (x:Int),d x<k->0<=x->x<↑b->∀ y∈c x,0<=y:=by
  intro k
  induction k with
  | zero=>intro x h;lia
  | succ k k =>
   intro x e f g y a;let g:b[x.toNat]?=⇑b[x.toNat]:=nT ∅;rw[m x _ f g]at a;unfold aW at a;let⟨e,p,a⟩:=List.mem_flatMap.mp a;unfold bq at a;by_cases h:e<0
   ·rw[if_pos h]at a;let i:jX b x (-1-e):=⟨f,_,g,cR.mpr ⟨by lia,by rw[show -1-(-1-e)=e by lia];exact p⟩⟩;let⟨e,f⟩:=j.Fg i;have:=n _ _ i;exact k _ ∅ e f y a
   ·rw[if_neg h]at a;rw[List.mem_singleton.mp a];lia
 exact λx=>o (d x+1) x (Nat.lt_succ_self _)
def rS{b:dD}{s n:Int}{a:Wp}(c:0<=s)(d:b[s.toNat]?=⇑a)(h:aX.win n∈aL a):jX b s n:=by
 exists c,a,d;rw[← iU];unfold gg;rw[List.mem_filterMap];exact⟨.win n,h,1⟩
structure pF(H:Hp)(r:Addr)(rows:dD)(sh:Y2):Prop where
 at_:iC H r (rows.map aL)
 len:↑rows<=1000
 ents:∀ es∈rows,↑es<=1000
 snd:gZ rows
 rk:DU rows
 QB:nh rows sh
 bd:∀ x:Int,0<=x->x<↑rows->↑(sh x)<=10000
theorem pF.same{H a:Hp}{r:Addr}{b:dD}{c:Y2}(s:aJ H a)(h:pF H r b c):pF a r b c:={ h with at_:=h.at_.same s }
structure vJ(H:Hp)(r:Addr)(rows:dD)(sh:Y2)(s:Int)(es:Wp)(yz:List V)(b:Addr):Prop where
 he:rows[s.toNat]?=⇑es
 hr:H r=⇑(.lst yz)
 ix:oU yz s=⇑↥b
 it:ck H ↥b (aL es)
 il:↑(aL es)<=1000
 rl:↑(bI sh (aL es))<=10000
 tt:jm (cy (sh s))=↑(sh s)
 se:sh s=aW sh es
def pF.one{H:Hp}{r:Addr}{a:dD}{b:Y2}{s:Int}(h:pF H r a b)(f:0<=s)(j:s<↑a):∃ k d e,vJ H r a b s k d e:=by
 let c:a[s.toNat]?=⇑a[s.toNat]:=nT ∅;let⟨d,l,i⟩:=h.at_;let⟨n,m,g⟩:=i.get' (i:=s.toNat) (b:=aL a[s.toNat]) (by rw[kB,c];rfl);let⟨e,o,rfl,i,n⟩:=id g;let z:=dh m;rw[show ((s.toNat:Nat):Int)=s by lia]at z;let m:=rL a[s.toNat] [];let i:=h.ents _ (mC c);let⟨n,o⟩:=Ay b a[s.toNat];let i:=h.QB s _ f c;refine⟨_,d,e,c,l,z,g,?_,?_,?_,i⟩
 ·show ↑(a[s.toNat].foldl bL [])<=_;simp only[oq]at m;lia
 ·let q:=uz b (aL a[s.toNat]) o;rw[n,← i]at q;have:=h.bd s f j;lia
 ·rw[← rE _ (jf _),dm]
def ku(a:Wp):↑(cy a)<=↑a:=by
 let z:=zY a [];simpa [cy] using z
def gy(b:Y2)(p:Int)(a c:Wp):Wp:=if c=[] then a else aE b p 0 a++c++bE b p 0 a
class inductive UK
 | mk (r f:Addr) (b:List aX) (d:List (eG × V)) (e:Y2) (N:Y1) (_:vs=[↥r,↥f]) (_:ck H ↥r b) (_:H f=⇑(.dK d)) (_:wW H d e b) (_:↑b<=100000) (_:(∀ h∈b,↑(dI e h)<=100000)) (_:(∀ n a,aX.win n∈b->cE d (Sum.inl n)=⇑↥a->N a)) (_:(∀ a,H a=none->N a)) (_ :
 ∀ (o:Addr) (g:List V) (c:Hp),c o=⇑(.lst g)->cP (nu N c) g (cz e 0 b)->aJ H c->H o=none->Q ↥o c)
theorem GI:‹(2,32,["l","A"],UK)›:=λD=>by
 refine eZ ["l","A","told","first","Z","j","last"] D.Yp.F λdc A zn s H vs Q E hr _ h=>?_
 let⟨r,S,d,R,a,N,rfl,⟨r',T,f,G,I⟩,hS,hW,eT,U,W,X,k⟩:=h;cases f;exists _,#v[aY 2 (bM ah),aY 3 az,eO PassesOwn.never rfl (cC (pv 0)) (bW 4) #v[aY 5 (aF D.Yo (yg D) hr #[4,1]),aY 6 (bG dY (pv 3) (_fJ.vF D.Yi (D.T.n9 _ D.Yi.m) (Ec D) hr #[5])),aT (dZ oS jE jF bX (pv 2) #[c9 #[4,5,3,6]]),aY 3 (pv 6)],aK (pv 2)]
 rfl'
 refine⟨iz,λq o=>?_⟩;let s0:aJ H (aO H q (.lst [])):=ao o _;refine⟨Y,r,1,⟨_,bJ.of (s0 _ _ G)⟩,dG (K:=bV) (e:=r) (b:=T) (λi p g=>∃ (vs:List V) (y z B:Option V),p=[⇑↥r,⇑↥S,⇑↥q,⇑(.int (0+jm (bI a (d.take i)))),y,z,B]/\g q=⇑(.lst vs)/\cP (nu (λc=>N c/\c≠q) g) vs (cz a 0 (d.take i))/\aJ H g) ⟨[],none,none,none,1,af,.nil,s0⟩ (by rintro i p g _ ⟨_,_,_,_,_,_,_,s⟩;exact bJ.of (s _ _ G)) ?_ ?_⟩
 ·rintro i x p g hi ⟨vs,y,z,B,rfl,t,l,s⟩;let⟨e,C,J⟩:=I.get hi;let u:=mC C;let G:=l.len;rw[C8,gI]at G;refine⟨Y,Y,x,e,S,R,λn=>cy (a n),1,J.same s,s _ _ hS,λn G=>(hW.same s) n (by rw[← G];exact u),λc G L v w3=>?_⟩
  let M:N c/\c≠q:=by
   rcases w3 with ⟨n,rfl,j⟩|m
   ·exists W n c u j;let⟨b,w,⟨G,F,_⟩⟩:=hW n u;rw[j]at w;cases w;exact aB F o
   ·exact⟨X c (aU s m),(aB t m).symm⟩
  refine⟨Y,Y,c,dI a e,1,L,iG (U e u) (by decide),λu m=>⟨Z,?_⟩⟩;let F:=m _ _ (v _ _ t);refine⟨Y,.inl ⟨1,_,bJ.of F⟩,Y,Y,Y,Y,D7,λO j=>?_⟩;let w:=ao j (.tup [x,↥c,.int (0+jm (bI a (d.take i))),.int (0+jm (bI a (d.take i))+jm (dI a e))]) _ _ F;refine⟨q,Z,w,aQ ∅,?_⟩;refine⟨Y,_,⇑x,⇑↥c,⇑(.int (0+jm (bI a (d.take i))+jm (dI a e))),?_,af,?_,bQ o (s.trans (v.trans (m.trans (ao j _)))) (aI q _ _)⟩
  ·let f:bI a (d.take (i+1))=bI a (d.take i)++dI a e:=by rw[take_snoc C,fG,jy];rfl
   rw[f,zS,← Int.add_assoc];rfl
  ·let f:cz a 0 (d.take (i+1))=cz a 0 (d.take i)++[(e,dI a e,0+jm (bI a (d.take i)),0+jm (bI a (d.take i))+jm (dI a e))]:=by rw[take_snoc C,vN];rfl
   rw[f];let a:O≠q:=(aB F j).symm;refine cP.snoc (l.mono λab ae h=>(((h.same v).same m).same (ao j _)).keep w (λc h=>h.2) (aI q _ _)) ⟨O,c,x,1,?_,?_,?_,M⟩
   ·rw[aN a,af]
   ·exact ((((J.same s).same v).same m).same (ao j _)).keep w (aI q _ _)
   ·exact (((L.same m).same (ao j _))).keep w M.2 (aI q _ _)
 ·rintro p g ⟨vs,y,z,B,rfl,t,l,s⟩;rw[I.len,gQ]at l;exact⟨Y,k q vs g t (l.mono λab ae ⟨c,a,x,f,h,i,r,n⟩=>⟨c,a,x,f,h,i,r,n.1⟩) s o⟩
class inductive JT
 | mk (r e o:Addr) (p:Int) (a c:List aX) (f:List (eG × V)) (b:Y2) (_:vs=[↥r,↥e,.int p,↥o]) (_:ck H ↥r a) (_:H e=⇑(.dK f)) (_:wW H f b a) (_:ck H ↥o c) (_:gH a) (_:gH c) (_:UI b a) (_:↑a<=50000) (_:↑(bI b a)<=50000) (_:c.length<=50000) (_ :
 ∀ (q:Addr) (d:Hp),ck d ↥q (aL (aE b p 0 (d9 a)++d9 c++bE b p 0 (d9 a)))->aJ H d->H q=none->Q ↥q d)
theorem vR:‹(3,33,["l","A","C","others"],JT)›:=λD=>by
 refine eZ ["l","A","C","others","ahead","behind","Z","j","first","last"] D.Yq.F λdc A zn s H vs Q E hr _ h=>?_
 let⟨ab,ae,ag,p,a,x,an,b,rfl,hI,hS,hW,hO,O,Wz,nn,l1,l2,l3,ap⟩:=h;refine⟨_,#v[aY 4 (bM ah),aY 5 (bM ah),eO PassesOwn.never rfl (cC (aF D.Yp (GI D) hr #[0,1])) (j6 (n:=4) rfl (bR (bW 6) (bR (bW 7) (bR (bW 8) (bR (bW 9) gB))))) #v[bN (aV gJ (pv 9) (pv 2) (bz _)) #v[aT (dZ oS jE jF bX (pv 4) #[6])] #v[bN (aV gJ (pv 2) (pv 8) (bz _)) #v[aT (dZ oS jE jF bX (pv 5) #[6])] #v[tS (i:=4) (by assumption) rfl (Or.inl rfl) (aF D.Gs (nj D) hr #[aF D.Yj (rO D) hr #[7,az,bG dH (pv 2) (pv 8)]]) wM,tS (i:=5) (by assumption) rfl (Or.inl rfl) (aF D.Gs (nj D) hr #[aF D.Yj (rO D) hr #[7,bG dH (pv 2) (pv 8),bG dH (pv 9) (pv 8)]]) wM]]],aK (aF D.Nj (iO D) hr #[bG iZ (bG iZ (pv 4) (pv 3)) (pv 5)])],?_⟩
 rfl'
 refine⟨iz,λA R=>⟨iz,λB x=>?_⟩⟩;let sA:aJ H (aO H A (.lst [])):=ao R _;let n:aJ _ (aO (aO H A (.lst [])) B (.lst [])):=ao x _;let s0:=sA.trans n;let w:A≠B:=aB af x;let Oo:=aU sA x;refine⟨Y,Y,ab,ae,a,an,b,λi=>i≠A/\i≠B,1,hI.same s0,s0 _ _ hS,hW.same s0,by lia,(λf S=>by have:=vQ b S;lia),?_,?_,λD dv H1 hD Of T _=>?_⟩
 ·intro d i f g;let⟨j,e,k,c,_⟩:=hW d f;rw[g]at e;cases e;exact⟨aB c R,aB c Oo⟩
 ·intro i c;exact⟨(aB (n _ _ af) c).symm,(aB af c).symm⟩
 let ai:=T _ _ (n _ _ (af (H:=H) (a:=A) (o:=.lst [])));let ak:=T _ _ (af (H:=aO H A (.lst [])) (a:=B) (o:=.lst []))
 let x:D≠A/\D≠B:=by
  rename_i c;exact⟨(aB (n _ _ af) c).symm,(aB af c).symm⟩
 let n:=AA b (YR p) a 0;let n:=AA b (YS p) a 0;let C:=yT b a 0 O nn;refine⟨D,1,⟨_,bJ.of hD⟩,dG (K:=bV) (e:=D) (b:=dv) (λj F k=>∃ U W X u4:Option V,F=[⇑↥ab,⇑↥ae,⇑(.int p),⇑↥ag,⇑↥A,⇑↥B,U,W,X,u4]/\lX H1 A B (((cz b 0 a).take j).flatMap (aD p)) (((cz b 0 a).take j).flatMap (bD p)) k) ⟨none,none,none,none,1,⟨_,ai,.nil⟩,⟨_,ak,.nil⟩,λ_ _ e _ _=>e⟩ (by rintro j F k _ ⟨_,_,_,_,_,pv⟩;exact bJ.of (pv.k _ _ hD x.1 x.2)) ?_ ?_⟩
 ·rintro j aH F k S ⟨U,W,X,u4,rfl,pv⟩;let⟨m,ed,n⟩:=Of.get S;let aq:=n.WE ai ak (λi h=>h) pv.k;let⟨i,ra,xi,rfl,ar,am,ZO,av⟩:=aq;let G:=rR (aD p) ed;let I:=rR (bD p) ed;let n:=iV (aD p) (cz b 0 a) j;let n:=iV (bD p) (cz b 0 a) j;let aw:=iV (aD p) (cz b 0 a) (j+1);let ax:=iV (bD p) (cz b 0 a) (j+1);let⟨q,r,J⟩:=pv.a;let⟨v2,t,L⟩:=pv.b;let z1:=J.len;let z2:=L.len;let⟨f,c,d,g⟩:=m
  let n:↑c<=50000:=by
   let z:=mC ed
   have:∃ n∈a,c=dI b n:=by
    let u:∀ (a:List aX) (o:Int),(f,c,d,g)∈cz b o a->∃ n∈a,c=dI b n:=by
     intro a
     induction a with
     | nil=>intro o h;cases h
     | cons n x y =>
      intro o h;rw[cz]at h;rcases List.mem_cons.mp h with e|e
      ·cases e;exact⟨f,by simp,1⟩
      ·let⟨n,v,l⟩:=y _ e;exact⟨n,j0 _ v,l⟩
    exact u a 0 z
   let⟨n,v,rfl⟩:=this;have:=vQ b v;lia
  exists i,Y,dN.of ar,1,E,1,E,1,E,1,Z;refine⟨Y,Y,Z,Y,dO (λx=>?_) (λx=>?_)⟩
  ·let n:g<=p:=of_decide_eq_true x;refine⟨Y,.inl ⟨1,_,bJ.of r⟩,Y,A,Z,r,aQ ∅,?_⟩;exists Q,Y;rw[G,I];let l:aD p (f,c,d,g)=[f]:=by unfold aD;rw[if_pos n]
   let u:bD p (f,c,d,g)=[]:=by unfold bD;rw[if_pos n]
   rw[l,u,ir];exact pv.LX w r (.cons am .nil)
  ·let n:¬ g<=p:=λz=>x (decide_eq_true z);refine⟨Y,Y,Z,Y,dO (λo=>?_) (λo=>?_)⟩
   ·let x:p<=d:=of_decide_eq_true o;refine⟨Y,.inl ⟨1,_,bJ.of t⟩,Y,B,Z,t,aQ ∅,?_⟩;exists Q,Y;rw[G,I];let l:aD p (f,c,d,g)=[]:=by unfold aD;rw[if_neg n,if_pos x]
    let u:bD p (f,c,d,g)=[f]:=by unfold bD;rw[if_neg n,if_pos x]
    rw[l,u,ir];exact pv.LY w t (.cons am .nil)
   ·let x:¬ p<=d:=λz=>o (decide_eq_true z);have l:aD p (f,c,d,g)=dz (cJ (lF 0 (p-d) 0 c)):=by unfold aD;rw[if_neg n,if_neg x]
    let u:bD p (f,c,d,g)=dz (cJ (lF (p-d) (g-d) 0 c)):=by unfold bD;rw[if_neg n,if_neg x]
    rw[G,l,cY]at aw;rw[I,u,cY]at ax;refine⟨Y,Y,Y,Y,Z,ra,c,0,p-d,1,ZO,by lia,λf x n M z=>⟨f,Y,n,iG (kj _ _ _ _) ∅,λq2 H4 f N n=>?_⟩⟩;let⟨n,v,e3,h3,y⟩:=f;cases e3;let z3:=y.len;let f:=N _ _ (M _ _ r);refine⟨A,q2,Z,f,h3,gV (aQ ∅),?_⟩;let ay:=((pv.same M).same N).LX w f y;let n:bU (aO H4 A (.lst (q++v))) ra c:=((ZO.same M).same N).keep f av.1 (aI A _ _);let aA:(aO H4 A (.lst (q++v))) B=⇑(.lst v2):=by rw[aN w.symm];exact N _ _ (M _ _ t)
    refine⟨Y,Y,Y,Y,Z,Y,Y,Z,ra,c,p-d,g-d,1,n,by lia,λc f d s6 g=>⟨c,Y,d,iG (kj _ _ _ _) ∅,λq4 d c s7 f=>?_⟩⟩;let⟨d,f,e4,h4,t4⟩:=c;cases e4;let c:=t4.len;let c:=s7 _ _ (s6 _ _ aA);refine⟨B,q4,Z,c,h4,gV (aQ ∅),?_⟩;exists Q,Y;rw[G,I,l,u];exact ((ay.same s6).same s7).LY w c t4
 ·rintro F k ⟨U,W,X,u4,rfl,pv⟩;let c:=Of.len;rw[c,gQ]at pv;let⟨q,r,J⟩:=pv.a;let⟨v2,t,L⟩:=pv.b;let z1:=J.len;let z2:=L.len;let d:aJ H k:=λi c e=>pv.k i c (T _ _ (s0 _ _ e)) (aB e R) (aB e Oo);let⟨c,v,e3,h3,y⟩:=hO.same d;cases e3;have z3:=y.len;refine⟨Y,Y,A,ag,Z,r,h3,gV (aQ ∅),λc e=>?_⟩;have f:aJ k (aO k c (.lst (q++v))):=ao e _;refine⟨Y,c,B,Z,af,f _ _ t,gV (aQ (by rw[cY];lia)),λo e=>?_⟩;have g:aJ _ (aO (aO k c (.lst (q++v))) o (.lst (q++v++v2))):=ao e _;have e:=f.trans g;refine⟨o,Y,⟨o,Y,af,((J.app y).app L).mono λv j h=>h.same e⟩,by rw[cY,cY];lia,λu g f i j=>?_⟩;have k:gH ((cz b 0 a).flatMap (aD p)):=vP λm c=>vy (C m c).1 (C m c).2;have l:gH ((cz b 0 a).flatMap (bD p)):=vP λm c=>vz (C m c).1 (C m c).2;rw[kZ _ ((k.append Wz).append l),gp,gp,GH b p a 0 O,C9 b p a 0 O]at f;exact ap u g f (d.trans (e.trans i)) (aU (d.trans e) j)
class inductive yh
 | mk (r o:Addr) (b:dD) (s p:Int) (a:List aX) (c:Y2) (_:vs=[↥r,.int s,.int p,↥o]) (_:pF H r b c) (_:0<=s) (_:s<↑b) (_:ck H ↥o a) (_:gH a) (_:↑a<=10000) (_:0<=p/\p<=↑(c s)) (_:(∀ (e:Wp) (q:Addr) (d:Hp),b[s.toNat]?=⇑e->ck d ↥q (aL (gy c p e (d9 a)))->aJ H d->H q=none->Q ↥q d))
def QC{c:List aX}(h:gH c):d9 c=[]↔c=[]:=by
 refine⟨λe=>?_,λe=>by rw[e];rfl⟩
 cases c with
 | nil=>rfl
 | cons it r =>
  let f:d9 (it::r)=gx it++d9 r:=by unfold d9;rw[i7]
  rw[f]at e;let d:=(List.append_eq_nil_iff.mp e).1
  cases it with
  | win n=>cases d
  | aC a b =>
   let e:a<b:=(h (.aC a b) (by simp)).2;have:=fC a (b-a).toNat;let e:run a (b-a).toNat=[]:=d;rw[e]at this;simp only[oq]at this;lia
theorem pG:‹(4,34,["n","g","C","l"],yh)›:=λD=>by
 specialize eZ ["n","g","C","l","A"] D.Uq.F;let⟨r,I,J,s,p,M,g,rfl,R,e,i,N,u,T,n,v⟩:=h;let w:=gM hr;refine⟨_,#v[aY 4 (aF D.Qh (jP D) hr #[0,bM #[1]]),aT (aF D.ZL (iD D) hr #[fK w (pv 4) (pv 1),2,2]),bN (iY (jG (pv 3) (λ_=>rfl))) #v[aK (aF D.Nj (iO D) hr #[aR bK (pv 0) (pv 1)])] bu,aK (aF D.Yq (vR D) hr #[aR bK (pv 0) (pv 1),4,2,3])],?_⟩
 rfl'
 refine⟨Y,Y,mh,λL U=>?_⟩;let w:aJ H (aO H L (.lst [.int s])):=ao U _;refine⟨r,L,J,[s],g,1,R.at_.same w,af,by simp,R.len,R.ents,R.snd,R.rk,(λx a=>by rw[List.mem_singleton.mp a];exact⟨e,i⟩),R.QB,R.bd,λS W U H2 x y X J j L ab=>?_⟩;let B:=J s (by simp);let⟨J,U,Ra⟩:=y s B;let z:=gu.k (k:=Sum.inl s) x;rw[U]at z;let d:=w.trans L;let w:=R.bd s e i;let w:=ku (g s);let⟨b,w,L,O⟩:=(R.same d).one e i;refine⟨Y,Y,S,Y,z,Y,Y,J,cy (g s),p,p,1,Ra,by lia,⟨n.1,Int.le_refl _,by rw[O.tt];exact n.2⟩,λn c=>?_⟩
 ·let⟨n,w,C,a⟩:=(R.same (d.trans c)).one e i;let ee:b=n:=qz (O.he.symm.trans a.he);subst ee;let F:=N.same (d.trans c);let⟨i,k,eo,ho,to⟩:=id F;cases eo;exists Y,!k.isEmpty,.inl ⟨_,bJ.of ho,1⟩;let G:=to.len
  cases M with
  | nil =>
   have:k=[]:=List.eq_nil_of_length_eq_zero (by simpa using G);subst this;refine iK ?_;refine⟨Y,Y,r,Q,V,bJ.of a.hr,a.ix,C,aL b,1,a.it,iG a.il (by decide),λq l f m o=>?_⟩;refine v b q l O.he ?_ (d.trans (c.trans m)) (aU (d.trans c) o);let⟨i,t⟩:=nk b;rw[kZ _ t,i]at f;exact f
  | cons it r0 =>
   have:(!k.isEmpty)=true:=by
    cases k with
    | nil=>simp at G
    | cons _ _=>rfl
   rw[this];refine fT ?_;refine⟨Y,Y,r,Q,V,bJ.of a.hr,a.ix,Y,Y,Y,C,S,I,p,aL b,it::r0,W,g,1,a.it,c _ _ x,λn j=>?_,F,(nk b).2,u,λn j=>?_,iG a.il (by decide),iG a.rl (by decide),iG T (by decide),λq l f m o=>?_⟩
   ·let a:=rS e O.he j;let⟨i,g⟩:=List.getElem?_of_mem B;let⟨k,t,R2⟩:=y n (List.mem_of_mem_take (X.dn i s g n a));exact⟨k,t,R2.same c⟩
   ·let a:=rS e O.he j;let⟨e,g⟩:=R.snd.Fg a;exact oO R.snd R.rk R.QB n e g
   ·refine v b q l O.he ?_ (d.trans (c.trans m)) (aU (d.trans c) o);rw[(nk b).1]at f;unfold gy;rw[if_neg (λz=>by cases (QC u).mp z)];exact f
def kD(a b:Int)(d:nF):List aX:=if d.2.2.2<=a\/b<=d.2.2.1 then [d.1] else if a<=d.2.2.1/\d.2.2.2<=b then [] else dz (cJ (lF 0 (a-d.2.2.1) 0 d.2.1++lF (b-d.2.2.1) (d.2.2.2-d.2.2.1) 0 d.2.1))
def tD(a b:Int)(d:nF):List aX:=if d.2.2.2<=a\/b<=d.2.2.1 then [] else if a<=d.2.2.1/\d.2.2.2<=b then [d.1] else dz (cJ (lF (a-d.2.2.1) (b-d.2.2.1) 0 d.2.1))
def LZ(a:Y2)(b c f e:Int):Wp:=if f+↑(bq a e)<=b\/c<=f then [e] else if b<=f/\f+↑(bq a e)<=c then [] else (bq a e).take (b-f).toNat++(bq a e).drop (c-f).toNat
def Ot(a:Y2)(b c f e:Int):Wp:=if f+↑(bq a e)<=b\/c<=f then [] else if b<=f/\f+↑(bq a e)<=c then [e] else ((bq a e).take (c-f).toNat).drop (b-f).toNat
def kE(a:Y2)(b c:Int):Int->List Int->List Int
 | _,[]=>[]
 | f,e::r=>LZ a b c f e++kE a b c (f+↑(bq a e)) r
def tE(a:Y2)(b c:Int):Int->List Int->List Int
 | _,[]=>[]
 | f,e::r=>Ot a b c f e++tE a b c (f+↑(bq a e)) r
theorem wZ(a:Y2)(b c:Int)(y:Wp):∀ (x:Wp) (f:Int),kE a b c f (x++y)=kE a b c f x++kE a b c (f+↑(aW a x)) y
 | [],f=>by simp[kE,aW]
 | e::x,f=>by
  rw[List.cons_append,kE,kE,wZ a b c y x,j4,cF,cY,Int.add_assoc]
  push_cast
  rfl
theorem w9(a:Y2)(b c:Int)(y:Wp):∀ (x:Wp) (f:Int),tE a b c f (x++y)=tE a b c f x++tE a b c (f+↑(aW a x)) y
 | [],f=>by simp[tE,aW]
 | e::x,f=>by
  rw[List.cons_append,tE,tE,w9 a b c y x,j4,cF,cY,Int.add_assoc]
  push_cast
  rfl
def ZP{a f:Int}(h:f<a):(a-f).toNat=(a-(f+1)).toNat+1:=by lia
theorem Ou{a f:Int}(h:a<=f):(a-f).toNat=0:=Int.toNat_of_nonpos (Int.sub_nonpos_of_le h)
theorem ZQ{a f:Int}(h:a<=f):(a-(f+1)).toNat=0:=Ou (Int.le_trans h (Int.le_of_lt (Int.lt_succ f)))
theorem nS{a f:Int}(h:¬ f+1<=a):a<=f:=Int.not_lt.mp h
theorem QD(e:Y2){b c:Int}(g:b<c):∀ (n:Nat) (x f:Int),0<=x->kE e b c f (run x n)=(run x n).take (b-f).toNat++(run x n).drop (c-f).toNat
 | 0,_,_,_=>by simp[run,kE]
 | n+1,x,f,h=>by
  rw[run,kE,QD e g n (x+1) _ ∅];unfold LZ;rw[rP e h];show (if f+1<=b\/c<=f then [x] else if b<=f/\f+1<=c then [] else _)++((run (x+1) n).take (b-(f+1)).toNat++(run (x+1) n).drop (c-(f+1)).toNat)=_;by_cases a:f+1<=b
  ·rw[if_pos (.inl a),ZP a,ZP (Int.lt_trans a g)];rfl
  ·by_cases d:c<=f
   ·rw[if_pos (.inr d),Ou (nS a),Ou d,ZQ (nS a),ZQ d];rfl
   ·rw[if_neg (λz=>z.elim a d),if_pos ⟨nS a,Int.not_le.mp d⟩,Ou (nS a),ZP (Int.not_le.mp d),ZQ (nS a)];rfl
theorem QE(e:Y2){a b:Int}(g:a<b):∀ (n:Nat) (x f:Int),0<=x->tE e a b f (run x n)=((run x n).take (b-f).toNat).drop (a-f).toNat
 | 0,_,_,_=>by simp[run,tE]
 | n+1,x,f,h=>by
  rw[run,tE,QE e g n (x+1) _ ∅];unfold Ot;rw[rP e h];show (if f+1<=a\/b<=f then [] else if a<=f/\f+1<=b then [x] else _)++((run (x+1) n).take (b-(f+1)).toNat).drop (a-(f+1)).toNat=_;by_cases c:f+1<=a
  ·rw[if_pos (.inl c),ZP c,ZP (Int.lt_trans c g)];rfl
  ·by_cases d:b<=f
   ·rw[if_pos (.inr d),Ou d,ZQ d];simp
   ·rw[if_neg (λz=>z.elim c d),if_pos ⟨nS c,Int.not_le.mp d⟩,Ou (nS c),ZP (Int.not_le.mp d),ZQ (nS c)];rfl
def NI{a b t:Int}{r:Row}(c:∀ p∈r,p.1<=p.2)(h:↑(bg r)<=t.toNat):bg (cJ (lF 0 a 0 r++lF b t 0 r))=(bg r).take a.toNat++(bg r).drop b.toNat:=by
 rw[kM _ (XZ (DR _ _ _ _) (DR _ _ _ _)),cZ,rH _ _ _ _ c,rH _ _ _ _ c];show ((bg r).take (a-0).toNat).drop 0++((bg r).take (t-0).toNat).drop (b-0).toNat=_;rw[Int.sub_zero,Int.sub_zero,Int.sub_zero,qv h];rfl
def vL(a:Y2){c d:Int}(j:c<d)(f:Int)(b:aX)(h:lU b):d9 (kD c d (b,dI a b,f,f+jm (dI a b)))=kE a c d f (gx b):=by
 let tt:=lg a b h
 let g:d9 (dz (cJ (lF 0 (c-f) 0 (dI a b)++lF (d-f) (f+jm (dI a b)-f) 0 (dI a b))))=(aW a (gx b)).take (c-f).toNat++(aW a (gx b)).drop (d-f).toNat:=by
  rw[oN,NI (vO a b h) (by rw[kq a b h,tt];lia),kq a b h]
 unfold kD;show d9 (if f+jm (dI a b)<=c\/d<=f then [b] else if c<=f/\f+jm (dI a b)<=d then [] else dz (cJ (lF 0 (c-f) 0 (dI a b)++lF (d-f) (f+jm (dI a b)-f) 0 (dI a b))))=_;let k:(f+jm (dI a b)<=c\/d<=f)=(f+↑(aW a (gx b))<=c\/d<=f):=by rw[tt]
 let l:(c<=f/\f+jm (dI a b)<=d)=(c<=f/\f+↑(aW a (gx b))<=d):=by rw[tt]
 simp only[k,l]
 cases b with
 | win n =>
  let i:aW a (gx (.win n))=bq a (-1-n):=by show aW a [-1-n]=_;rw[cF];simp[aW]
  rw[i]at g ⊢;show _=kE a c d f [-1-n];rw[kE,kE,ir];unfold LZ;split
  ·rfl
  ·split
   ·rfl
   ·exact g
 | aC x y =>
  let i:aW a (gx (.aC x y))=run x (y-x).toNat:=mH a _ _ h.1;rw[i]at g ⊢;show _=kE a c d f (run x (y-x).toNat);rw[QD a j _ _ _ h.1];let i:=fC x (y-x).toNat;split
  ·rename_i e;rw[kY];rcases e with e|e
   ·rw[qv ∅,yp ∅,ir];rfl
   ·rw[Ou (Int.le_trans (Int.le_of_lt j) e),Ou e];rfl
  ·split
   ·rename_i e;rw[Ou e.1,yp ∅];rfl
   ·exact g
def vT(a:Y2){c d:Int}(j:c<d)(f:Int)(b:aX)(h:lU b):d9 (tD c d (b,dI a b,f,f+jm (dI a b)))=tE a c d f (gx b):=by
 let tt:=lg a b h
 let g:d9 (dz (cJ (lF (c-f) (d-f) 0 (dI a b))))=((aW a (gx b)).take (d-f).toNat).drop (c-f).toNat:=by
  rw[oN,pB _ _ _ (vO a b h),kq a b h]
 unfold tD;show d9 (if f+jm (dI a b)<=c\/d<=f then [] else if c<=f/\f+jm (dI a b)<=d then [b] else dz (cJ (lF (c-f) (d-f) 0 (dI a b))))=_;rw[tt]
 cases b with
 | win n =>
  let i:aW a (gx (.win n))=bq a (-1-n):=by show aW a [-1-n]=_;rw[cF];simp[aW]
  rw[i]at g ⊢;show _=tE a c d f [-1-n];rw[tE,tE,ir];unfold Ot;split
  ·rfl
  ·split
   ·rfl
   ·exact g
 | aC x y =>
  let i:aW a (gx (.aC x y))=run x (y-x).toNat:=mH a _ _ h.1;rw[i]at g ⊢;show _=tE a c d f (run x (y-x).toNat);rw[QE a j _ _ _ h.1];let i:=fC x (y-x).toNat;split
  ·rename_i e;rcases e with e|e
   ·rw[yp (by rw[gI];lia)];rfl
   ·rw[Ou e];simp[d9]
  ·split
   ·rename_i e;rw[kY,Ou e.1,qv ∅];rfl
   ·exact g
theorem Ej(a:Y2){b c:Int}(e:b<c):∀ (d:List aX) (f:Int),gH d->d9 ((cz a f d).flatMap (kD b c))=kE a b c f (d9 d)
 | [],f,_=>rfl
 | it::r,f,h=>by
  let g:=h it (by simp);rw[cz,i7,gp,vL a e f it g,Ej a e r _ λi j=>h i (j0 _ j)];let i:d9 (it::r)=gx it++d9 r:=by unfold d9;rw[i7]
  rw[i,wZ,lg a it g]
theorem GJ(a:Y2){b c:Int}(e:b<c):∀ (d:List aX) (f:Int),gH d->d9 ((cz a f d).flatMap (tD b c))=tE a b c f (d9 d)
 | [],f,_=>rfl
 | it::r,f,h=>by
  let g:=h it (by simp);rw[cz,i7,gp,vT a e f it g,GJ a e r _ λi j=>h i (j0 _ j)];let i:d9 (it::r)=gx it++d9 r:=by unfold d9;rw[i7]
  rw[i,w9,lg a it g]
def WI{a b:Int}{d:nF}(h:lU d.1)(g:lT d.2.1):gH (kD a b d):=by
 unfold kD;split
 ·exact gH.one h
 ·split
  ·exact λi c=>by cases c
  ·exact vM (oJ λp c=>(List.mem_append.mp c).elim (Ak _ _ _ _ g p) (Ak _ _ _ _ g p))
def v3{a b:Int}{d:nF}(h:lU d.1)(g:lT d.2.1):gH (tD a b d):=by
 unfold tD;split
 ·exact λi c=>by cases c
 ·split
  ·exact gH.one h
  ·exact Az g
def JU(a b:Int)(d:nF):↑(kD a b d)<=↑d.2.1+↑d.2.1+1:=by
 unfold kD;split
 ·simp
 ·split
  ·simp
  ·rw[yU];refine iG (iT _) ?_;rw[cY];have:=kj 0 (a-d.2.2.1) d.2.1 0;have:=kj (b-d.2.2.1) (d.2.2.2-d.2.2.1) d.2.1 0;lia
def QF(a b:Int)(d:nF):↑(tD a b d)<=↑d.2.1+↑d.2.1+1:=by
 unfold tD;split
 ·simp
 ·split
  ·simp
  ·exact iG (rQ _ _ _) ∅
theorem mJ(a:Y2){g:nF->List aX}(c:∀ d,↑(g d)<=↑d.2.1+↑d.2.1+1):∀ (b:List aX) (f:Int),↑((cz a f b).flatMap g)<=↑(bI a b)+↑(bI a b)+↑b
 | [],_=>by simp[cz]
 | it::r,f=>by
  rw[cz,i7,cY];let e:=c (it,dI a it,f,f+jm (dI a it));let i:=mJ a c r (f+jm (dI a it));let h:bI a (it::r)=dI a it++bI a r:=by unfold bI;rw[i7];rfl
  rw[h,cY,kH];simp only at e;lia
theorem GK(a:Y2)(b:aX)(c:Row)(d f:Int):∀ (g:List aX) (i:Int),(b,c,d,f)∈cz a i g->∃ j∈g,c=dI a j
 | [],_,h=>by cases h
 | i0::k,i,h=>by
  rw[cz]at h;rcases List.mem_cons.mp h with e|e
  ·cases e;exact⟨b,by simp,1⟩
  ·let⟨l,m,n⟩:=GK a b c d f k _ e;exact⟨l,j0 _ m,n⟩
theorem Dc(a:Y2):∀ (b:List aX) (f:Int) (d:nF),d∈cz a f b->d.1∈b
 | [],_,_,h=>by cases h
 | i0::c,f,d,h=>by
  rw[cz]at h;rcases List.mem_cons.mp h with e|e
  ·subst e;simp
  ·exact j0 _ (Dc a c _ d e)
def GL(c:Y2){d e n:Int}{b:List aX}(h:aX.win n∈(cz c 0 b).flatMap (kD d e)):aX.win n∈b:=by
 let⟨f,g,a⟩:=List.mem_flatMap.mp h;unfold kD at a;split at a
 ·rw[List.mem_singleton.mp a];exact Dc c b 0 f g
 ·split at a
  ·cases a
  ·unfold dz at a;let⟨p,_,i⟩:=List.mem_map.mp a;cases i
theorem Dd{H:Hp}{A:Addr}{l:List aX}{a:List V}(h:H A=⇑(.lst a))(t:cP (d7 H) a l):ck H ↥A l:=⟨A,a,1,h,t⟩
def bZ(d:Y2)(a b:Int)(c:Wp):Wp:=if a=b then c else kE d a b 0 c
def iP(c:Y2)(a b:Int)(d:Wp):Wp:=if a=b then [] else tE c a b 0 d
class inductive QG
 | mk (r f:Addr) (a b:Int) (c:List aX) (g:List (eG × V)) (e:Y2) (_:vs=[↥r,↥f,.int a,.int b]) (_:ck H ↥r c) (_:H f=⇑(.dK g)) (_:wW H g e c) (_:↑c<=10000) (_:↑(bI e c)<=20000) (_ :
 ∀ (t L M:Addr) (d:Hp),d t=⇑(.tup [↥L,↥M])->ck d ↥L ((cz e 0 c).flatMap (kD a b))->ck d ↥M ((cz e 0 c).flatMap (tD a b))->aJ H d->Q ↥t d)
theorem De:‹(3,35,["l","A","i","o"],QG)›:=λD=>by
 let t:aZ cX bf bV cW cV cQ 1 (dQ 7) (dR 7) ["j","i","o"] F7:=rO D
 refine eZ ["l","A","i","o","left","taken","Z","j","first","last"] D.Yr.F λdc A zn s H vs Q E hr _ h=>?_
 let⟨z,R,p,q,d,ai,c,rfl,hI,hS,T,W,l2,ak⟩:=h;refine⟨_,#v[aY 4 (bM ah),aY 5 (bM ah),eO PassesOwn.never rfl (cC (aF D.Yp (GI D) hr #[0,1])) (j6 (n:=4) rfl (bR (bW 6) (bR (bW 7) (bR (bW 8) (bR (bW 9) gB))))) #v[bN (PW.pt (FA (aV gJ (pv 9) (pv 2) (bz _)) (DB (aV gJ (pv 3) (pv 8) (bz _))))) #v[aT (dZ oS jE jF bX (pv 4) #[6])] #v[bN (PW.pt (oW (aV gJ (pv 2) (pv 8) (bz _)) (lZ (aV gJ (pv 9) (pv 3) (bz _))))) #v[aT (dZ oS jE jF bX (pv 5) #[6])] #v[tS (i:=4) (by assumption) rfl (Or.inl rfl) (aF D.Gs (nj D) hr #[bG iZ (aF D.Yj t hr #[7,az,bG dH (pv 2) (pv 8)]) (aF D.Yj t hr #[7,bG dH (pv 3) (pv 8),bG dH (pv 9) (pv 8)])]) wM,tS (i:=5) (by assumption) rfl (Or.inl rfl) (aF D.Gs (nj D) hr #[aF D.Yj t hr #[7,bG dH (pv 2) (pv 8),bG dH (pv 3) (pv 8)]]) wM]]],aK (c9 #[4,5])],?_⟩
 rfl'
 refine⟨iz,λA hA=>⟨iz,λB t=>?_⟩⟩;let W:aJ H (aO H A (.lst [])):=ao hA _;let g:aJ _ (aO (aO H A (.lst [])) B (.lst [])):=ao t _;let s0:=W.trans g;let C:A≠B:=aB af t;let Oo:=aU W t;refine⟨Y,Y,z,R,d,ai,c,λj=>j≠A/\j≠B,1,hI.same s0,s0 _ _ hS,T.same s0,by lia,(λf u=>by have:=vQ c u;lia),?_,?_,λD dv v hD Of s1 _=>?_⟩
 ·intro n j b e;let⟨f,m,i,a,_⟩:=T n b;rw[e]at m;cases m;exact⟨aB a hA,aB a Oo⟩
 ·intro j a;exact⟨(aB (g _ _ af) a).symm,(aB af a).symm⟩
 let ab:=s1 _ _ (g _ _ (af (H:=H) (a:=A) (o:=.lst [])));let ae:=s1 _ _ (af (H:=aO H A (.lst [])) (a:=B) (o:=.lst []))
 let t:D≠A/\D≠B:=by
  rename_i a;exact⟨(aB (g _ _ af) a).symm,(aB af a).symm⟩
 let g:=mJ c (JU p q) d 0;let g:=mJ c (QF p q) d 0;refine⟨D,1,⟨_,bJ.of hD⟩,dG (K:=bV) (e:=D) (b:=dv) (λi L n=>∃ u1 u2 u3 u4:Option V,L=[⇑↥z,⇑↥R,⇑(.int p),⇑(.int q),⇑↥A,⇑↥B,u1,u2,u3,u4]/\lX v A B (((cz c 0 d).take i).flatMap (kD p q)) (((cz c 0 d).take i).flatMap (tD p q)) n) ⟨none,none,none,none,1,⟨_,ab,.nil⟩,⟨_,ae,.nil⟩,λ_ _ m _ _=>m⟩ (by rintro i L n _ ⟨_,_,_,_,_,pv⟩;exact bJ.of (pv.k _ _ hD t.1 t.2)) ?_ ?_⟩
 ·rintro i ax L n u ⟨u1,u2,u3,u4,rfl,pv⟩;let⟨am,x,g⟩:=Of.get u;let an:=g.WE ab ae (λj h=>h) pv.k;let⟨j,M,xi,rfl,ap,ag,ZO,aq⟩:=an;let N:=rR (kD p q) x;let O:=rR (tD p q) x;let g:=iV (kD p q) (cz c 0 d) i;let g:=iV (tD p q) (cz c 0 d) i;let ar:=iV (kD p q) (cz c 0 d) (i+1);let av:=iV (tD p q) (cz c 0 d) (i+1);let⟨r,k,t1⟩:=pv.a;let⟨F,w,t2⟩:=pv.b;let g:=t1.len;let g:=t2.len;let⟨f,b,a,e⟩:=am
  let g:↑b<=20000:=by
   let⟨o,l,rfl⟩:=GK c f b a e d 0 (mC x);have:=vQ c l;lia
  let x:↑r<sizeLine:=aQ ∅
  let R:(e<=p\/q<=a)->lX v A B (((cz c 0 d).take (i+1)).flatMap (kD p q)) (((cz c 0 d).take (i+1)).flatMap (tD p q)) (aO n A (.lst (r++[xi]))):=λg=>by
   rw[N,O];let t:kD p q (f,b,a,e)=[f]:=by unfold kD;rw[if_pos g]
   let u:tD p q (f,b,a,e)=[]:=by unfold tD;rw[if_pos g]
   rw[t,u,ir];exact pv.LX C k (.cons ag .nil)
  exists j,Y,dN.of ap,1,E,1,E,1,E,1,Z;refine⟨Y,Y,Z,Y,dO (λg=>iK ?_) (λg=>?_)⟩
  ·exact⟨Y,.inl ⟨1,_,bJ.of k⟩,Y,A,Z,k,x,Q,Y,R (.inl (of_decide_eq_true g))⟩
  let T:¬ e<=p:=λz=>g (decide_eq_true z);refine⟨Y,Y,Z,Y,dO (λg=>?_) (λg=>?_)⟩
  ·exact⟨Y,.inl ⟨1,_,bJ.of k⟩,Y,A,Z,k,x,Q,Y,R (.inr (of_decide_eq_true g))⟩
  let x:¬ q<=a:=λz=>g (decide_eq_true z);have R:¬ (e<=p\/q<=a):=λz=>z.elim T x
  let ab:¬ (p<=a/\e<=q)->lX v A B (((cz c 0 d).take i).flatMap (kD p q)) (((cz c 0 d).take i).flatMap (tD p q)) n->kD p q (f,b,a,e)=dz (cJ (lF 0 (p-a) 0 b++lF (q-a) (e-a) 0 b))/\tD p q (f,b,a,e)=dz (cJ (lF (p-a) (q-a) 0 b)):=λx _=>by
   exists ?_
   ·unfold kD;rw[if_neg R,if_neg x]
   ·unfold tD;rw[if_neg R,if_neg x]
  let go:¬ (p<=a/\e<=q)->∀ (S T:Addr) (l:List V) (g:Hp),g T=⇑(.lst l)->cP (d7 g) l (dz (cJ (lF 0 (p-a) 0 b++lF (q-a) (e-a) 0 b)))->aJ n g->↑r+↑l<=sizeLine/\lX v A B (((cz c 0 d).take (i+1)).flatMap (kD p q)) (((cz c 0 d).take i).flatMap (tD p q)) (aO g A (.lst (r++l)))/\bU (aO g A (.lst (r++l))) M b/\(aO g A (.lst (r++l))) B=⇑(.lst F):=λx S T l g h3 U o=>by
   let⟨t,u⟩:=ab x pv;let y:=U.len;rw[N,t,cY]at ar;let y:=o _ _ k;refine⟨Nat.le_of_lt (aQ ∅),?_,(ZO.same o).keep y aq.1 (aI A _ _),by rw[aN C.symm];exact o _ _ w⟩;rw[N,t];exact (pv.same o).LX C y U
  let aw:¬ (p<=a/\e<=q)->∀ (y:List V) (W G:Hp),lX v A B (((cz c 0 d).take (i+1)).flatMap (kD p q)) (((cz c 0 d).take i).flatMap (tD p q)) W->W B=⇑(.lst F)->cP (d7 G) y (dz (cJ (lF (p-a) (q-a) 0 b)))->aJ W G->↑F+↑y<=sizeLine/\lX v A B (((cz c 0 d).take (i+1)).flatMap (kD p q)) (((cz c 0 d).take (i+1)).flatMap (tD p q)) (aO G B (.lst (F++y))):=λx y W G c d X I=>by
   let⟨t,u⟩:=ab x pv;let i:=X.len;rw[O,u,cY]at av;refine⟨Nat.le_of_lt (aQ ∅),?_⟩;rw[O,u];exact (c.same I).LY C (I _ _ d) X
  let c:=kj 0 (p-a) b 0;let c:=kj (q-a) (e-a) b 0;let c:=kj (p-a) (q-a) b 0;refine⟨Y,Y,Z,Y,Jx (λz=>⟨Y,Y,Z,Y,z⟩) (λJ=>?_) (λJ=>?_)⟩
  ·exists Y,.inl ⟨1,_,bJ.of w⟩,Y,B,Z,w,aQ ∅,Q,Y;rw[N,O];let t:kD p q (f,b,a,e)=[]:=by unfold kD;rw[if_neg R,if_pos J]
   let u:tD p q (f,b,a,e)=[f]:=by unfold tD;rw[if_neg R,if_pos J]
   rw[t,u,ir];exact pv.LY C w (.cons ag .nil)
  ·refine⟨Y,Y,Y,Y,Z,M,b,0,p-a,1,ZO,by lia,λS c f s3 d=>?_⟩;let⟨c,t,d⟩:=id f;let f:=d.len;refine⟨Y,Y,Y,Z,Y,Y,Z,M,b,q-a,e-a,1,ZO.same s3,by lia,λT g u o f=>?_⟩;let⟨f,v,i⟩:=id u;let u:=i.len;refine⟨S,T,Z,o _ _ t,v,(by rw[b8,b8];exact gV (aQ ∅)),λt u=>?_⟩;let s5:aJ g (aO g t (.lst (c.map V.ref++f.map V.ref))):=ao u _;refine⟨t,lF 0 (p-a) 0 b++lF (q-a) (e-a) 0 b,1,⟨c++f,by rw[af,gm],bx.append ((d.same o).same s5) (i.same s5)⟩,by rw[cY];lia,λq3 H6 c s6 d=>?_⟩;let⟨d,l,e3,h3,U⟩:=c;cases e3;let c:=s3.trans (o.trans (s5.trans s6));let⟨d,g2,e,g4⟩:=go J S q3 l H6 h3 U c;exists A,q3,Z,c _ _ k,h3,d;refine⟨Y,Y,Y,Y,Z,Y,Y,Z,M,b,p-a,q-a,1,e,by lia,λa G b I c=>⟨a,Y,b,by lia,λq5 H8 a s8 b=>?_⟩⟩;let⟨b,y,e4,h4,X⟩:=a;cases e4;let⟨a,b⟩:=aw J y _ H8 g2 g4 X (I.trans s8);exact⟨B,q5,Z,(I.trans s8) _ _ g4,h4,a,Q,Y,b⟩
 ·rintro L n ⟨u1,u2,u3,u4,rfl,pv⟩;let a:=Of.len;rw[a,gQ]at pv;let⟨r,k,t1⟩:=pv.a;let⟨F,w,t2⟩:=pv.b;let b:aJ H n:=λj a m=>pv.k j a (s1 _ _ (s0 _ _ m)) (aB m hA) (aB m Oo);refine⟨Y,Y,mj,λt a=>ak t A B _ af ?_ ?_ (b.trans (ao a _))⟩
  ·exact (Dd k t1).same (ao a _)
  ·exact (Dd w t2).same (ao a _)
class inductive GN
 | mk (r:Addr) (c:dD) (s a b:Int) (d:Y2) (_:vs=[↥r,.int s,.int a,.int b]) (_:pF H r c d) (_:0<=s) (_:s<↑c) (_:TQ a b ↑(d s)) (_:(∀ (f:Wp) (q:Addr) (e:Hp),c[s.toNat]?=⇑f->ck e ↥q (aL (bZ d a b f))->aJ H e->H q=none->Q ↥q e))
theorem El:‹(4,36,["n","g","i","o"],GN)›:=λD=>by
 specialize eZ ["n","g","i","o","A"] D.lx.F;let⟨r,F,s,p,q,c,rfl,R,e,i,n,t⟩:=h;let u:=gM hr;exists _,#v[aY 4 (aF D.Qh (jP D) hr #[0,bM #[1]]),aT (aF D.ZL (iD D) hr #[fK u (pv 4) (pv 1),2,3]),bN (aV eV (pv 2) (pv 3) (bz _)) #v[aK (aF D.Nj (iO D) hr #[aR bK (pv 0) (pv 1)])] bu,aK (aF D.Nj (iO D) hr #[aR bh (aF D.Yr (De D) hr #[aR bK (pv 0) (pv 1),4,2,3]) az])]
 rfl'
 refine⟨Y,Y,mh,λL G=>?_⟩;let u:aJ H (aO H L (.lst [.int s])):=ao G _;refine⟨r,L,F,[s],c,1,R.at_.same u,af,by simp,R.len,R.ents,R.snd,R.rk,(λx a=>by rw[List.mem_singleton.mp a];exact⟨e,i⟩),R.QB,R.bd,λS I M N v w J F j G U=>?_⟩;let x:=F s (by simp);let⟨F,M,N⟩:=w s x;let z:=gu.k (k:=Sum.inl s) v;rw[M]at z;let f:=u.trans G;let u:=R.bd s e i;let u:=ku (c s);let⟨b,u,G,O⟩:=(R.same f).one e i;refine⟨Y,Y,S,Y,z,Y,Y,F,cy (c s),p,q,1,N,by lia,by rw[O.tt];exact n,λu d=>?_⟩
 ·let⟨u,F,y,a⟩:=(R.same (f.trans d)).one e i;let T:b=u:=qz (O.he.symm.trans a.he);subst T;let⟨B,g⟩:=nk b;refine⟨Y,Y,1,Y,dO (λi=>?_) (λi=>?_)⟩
  ·let l:p=q:=V.int.inj (of_decide_eq_true i);refine⟨Y,Y,r,Q,V,bJ.of a.hr,a.ix,y,aL b,1,a.it,iG a.il (by decide),λo C u k m=>?_⟩;refine t b o C O.he ?_ (f.trans (d.trans k)) (aU (f.trans d) m);rw[kZ _ g,B]at u;unfold bZ;rw[if_pos l];exact u
  ·let l:¬ p=q:=λz=>i (by rw[z];exact decide_eq_true rfl);have u:p<q:=by have:=n.2.1;lia
   refine⟨Y,Y,r,Q,V,bJ.of a.hr,a.ix,Y,Y,Y,y,S,p,q,aL b,I,c,1,a.it,d _ _ v,λn j=>?_,iG a.il (by decide),iG a.rl (by decide),λr L M C v y i k=>?_⟩
   ·let i:=rS e O.he j;let⟨m,o⟩:=List.getElem?_of_mem x;let⟨x,g,R2⟩:=w n (List.mem_of_mem_take (J.dn m s o n i));exact⟨x,g,R2.same d⟩
   let w:UI c (aL b):=λn j=>by
    let i:=rS e O.he j;let⟨e,j⟩:=R.snd.Fg i;exact oO R.snd R.rk R.QB n e j
   let e:=yT c (aL b) 0 g w;let lk:gH ((cz c 0 (aL b)).flatMap (kD p q)):=vP λi j=>WI (e i j).1 (e i j).2;have e:=mJ c (JU p q) (aL b) 0;have e:=a.il;have e:=a.rl;refine⟨r,Q,V,dN.of v,1,L,Y,y,by lia,λo e a i m=>?_⟩;refine t b o e O.he ?_ (f.trans (d.trans (k.trans i))) (aU (f.trans (d.trans k)) m);rw[kZ _ lk,Ej c u _ _ g,B]at a;unfold bZ;rw[if_neg l];exact a
def mq(a:Y2)(b c e:Int)(d:Wp):Wp:=if b=c then d else aE a e 0 (kE a b c 0 d)++tE a b c 0 d++bE a e 0 (kE a b c 0 d)
def Mv(a b c n:Int):Prop:=TQ a b n/\0<=c/\c<=n-(b-a)
def QH(a:Y2)(r:Row):bI a (dz r)=r:=by
 unfold bI dz;rw[List.flatMap_map]
 induction r with
 | nil=>rfl
 | cons p r b=>rw[i7,b];rfl
theorem Df(a:Y2)(b c:Int):∀ (d:List aX) (f:Int),↑(bI a ((cz a f d).flatMap (kD b c)))<=↑(bI a d)+↑(bI a d)
 | [],_=>by simp[cz,bI]
 | it::r,f=>by
  let g:=Df a b c r (f+jm (dI a it));let e:bI a (it::r)=dI a it++bI a r:=by unfold bI;rw[i7];rfl
  let g:↑(bI a (kD b c (it,dI a it,f,f+jm (dI a it))))<=↑(dI a it)+↑(dI a it):=by
   unfold kD;split
   ·rw[jy];show ↑(dI a it)<=_;lia
   ·split
    ·simp[bI]
    ·rw[QH];refine iG (iT _) ?_;rw[cY];have:=kj 0 (b-f) (dI a it) 0;have:=kj (c-f) (f+jm (dI a it)-f) (dI a it) 0;simp only;lia
  rw[cz,i7,fG,cY,e,cY];lia
class inductive BA
 | mk (r:Addr) (c:dD) (s a b d:Int) (e:Y2) (_:vs=[↥r,.int s,.int a,.int b,.int d]) (_:pF H r c e) (_:0<=s) (_:s<↑c) (_:Mv a b d ↑(e s)) (_:(∀ (g:Wp) (q:Addr) (f:Hp),c[s.toNat]?=⇑g->ck f ↥q (aL (mq e a b d g))->aJ H f->H q=none->Q ↥q f))
def v8.mid{i:Int}(a:-300000<i)(b:i<300000):v8 i:=by
 let c:(300000:Int)<10^60:=by decide
 exact⟨by lia,by lia⟩
theorem v8.YT{i:Int}(h:-100000<i/\i<100000):v8 i:=v8.mid ∅ ∅
theorem AD:‹(4,37,["n","g","i","o","to"],BA)›:=λD=>by
 specialize eZ ["n","g","i","o","to","A","rest","left","taken"] D.lz.F;let⟨r,X,s,p,q,to,a,rfl,R,g,m,n,y⟩:=h;let B:=gM hr;exists _,#v[aY 5 (aF D.Qh (jP D) hr #[0,bM #[1]]),aT (aF D.ZL (iD D) hr #[fK B (pv 5) (pv 1),2,3]),aY 6 (bG dH (_fJ.vF D.Yi (D.T.n9 _ D.Yi.m) (Ec D) hr #[fK B (pv 5) (pv 1)]) (bG dH (pv 3) (pv 2))),bN (iY (qE gJ gJ az (pv 4) (pv 6))) #v[iH] bu,bN (aV eV (pv 2) (pv 3) (bz _)) #v[aK (aF D.Nj (iO D) hr #[aR bK (pv 0) (pv 1)])] bu,mS (aF D.Yr (De D) hr #[aR bK (pv 0) (pv 1),5,2,3]) (j6 (n:=2) rfl (bR (bW 7) (bR (bW 8) gB))),aK (aF D.Yq (vR D) hr #[7,5,4,8])]
 rfl'
 refine⟨Y,Y,mh,λL hL=>?_⟩;let B:aJ H (aO H L (.lst [.int s])):=ao hL _;refine⟨r,L,X,[s],a,1,R.at_.same B,af,by simp,R.len,R.ents,R.snd,R.rk,(λx b=>by rw[List.mem_singleton.mp b];exact⟨g,m⟩),R.QB,R.bd,λS t ks H2 o C tp X f s2 ab=>?_⟩;let F:=X s (by simp);let⟨G,I,J⟩:=C s F;let z:=gu.k (k:=Sum.inl s) o;rw[I]at z;let i:=B.trans s2;let B:=R.bd s g m;let B:=ku (a s);let⟨b,B,X,O⟩:=(R.same i).one g m;refine⟨Y,Y,S,Y,z,Y,Y,G,cy (a s),p,q,1,J,by lia,by rw[O.tt];exact n.1,λB c=>?_⟩
 ·let hp:=n.1;let⟨B,X,u,d⟩:=(R.same (i.trans c)).one g m;let ee:b=B:=qz (O.he.symm.trans d.he);subst ee;let⟨M,j⟩:=nk b;let m:=gu.k (k:=Sum.inl s) (c _ _ o);rw[I]at m;refine⟨Y,Y,S,Y,m,G,cy (a s),1,J.same c,by lia,λN e=>?_⟩;rw[O.tt];exists Y,Y,Z,Z;exists Y,Z,Y;rw[decide_eq_true n.2.1];refine dO (λ_=>?_) (λl=>absurd rfl l);exists Y,Z,Y;rw[decide_eq_true n.2.2];refine fT ?_;let T:ck N ↥u (aL b):=d.it.same e;let U:=e _ _ d.hr;refine⟨Y,Y,1,Y,dO (λl=>?_) (λl=>?_)⟩
  ·let v:p=q:=V.int.inj (of_decide_eq_true l);refine⟨Y,Y,r,Q,V,bJ.of U,d.ix,u,aL b,1,T,iG d.il (by decide),λw W m k x=>?_⟩;refine y b w W O.he ?_ (i.trans (c.trans (e.trans k))) (aU (i.trans (c.trans e)) x);rw[kZ _ j,M]at m;unfold mq;rw[if_pos v];exact m
  ·let v:¬ p=q:=λz=>l (by rw[z];exact decide_eq_true rfl);have z:p<q:=by have:=hp.2.1;lia
   let B:∀ n,aX.win n∈aL b->∃ l,cE t (Sum.inl n)=⇑↥l/\bU N l (cy (a n)):=λn f=>by
    let m:=rS g O.he f;let⟨k,w⟩:=List.getElem?_of_mem F;let⟨l,j,R2⟩:=C n (List.mem_of_mem_take (tp.dn k s w n m));exact⟨l,j,(R2.same c).same e⟩
   refine⟨Y,Y,r,Q,V,bJ.of U,d.ix,Y,Y,Y,u,S,p,q,aL b,t,a,1,T,e _ _ (c _ _ o),B,iG d.il (by decide),iG d.rl (by decide),λC L F W G I J k=>?_⟩
   let u:UI a (aL b):=λn f=>by
    let m:=rS g O.he f;let⟨g,r⟩:=R.snd.Fg m;exact oO R.snd R.rk R.QB n g r
   let r:=yT a (aL b) 0 j u;let lk:gH ((cz a 0 (aL b)).flatMap (kD p q)):=vP λg m=>WI (r g m).1 (r g m).2;have N:gH ((cz a 0 (aL b)).flatMap (tD p q)):=vP λg m=>v3 (r g m).1 (r g m).2;have g:=mJ a (JU p q) (aL b) 0;have g:=mJ a (QF p q) (aL b) 0;have g:=Df a p q (aL b) 0;have g:=d.il;have g:=d.rl;exists C,Y,dN.of G,1,E,1,Z;refine⟨Y,Y,Y,Y,L,S,F,to,E,t,a,1,I,k _ _ (e _ _ (c _ _ o)),(λn f=>?_),J,lk,N,(λn f=>u n (GL a f)),by lia,by lia,by lia,λw g d m x=>?_⟩
   ·let⟨l,o,R2⟩:=B n (GL a f);exact⟨l,o,R2.same k⟩
   refine y b w g O.he ?_ (i.trans (c.trans (e.trans (k.trans m)))) (aU (i.trans (c.trans (e.trans k))) x);rw[Ej a z _ _ j,GJ a z _ _ j,M]at d;unfold mq;rw[if_neg v];exact d
class inductive UL
 | mk (r:Addr) (b:dD) (s:Int) (c:Y2) (_:vs=[↥r,.int s]) (_:pF H r b c) (_:0<=s) (_:s<↑b) (_ :
 ∀ (o:Addr) (a:Hp),ck a ↥o (aL (c s))->aJ H a->H o=none->Q ↥o a)
theorem AE:‹(5,38,["n","g"],UL)›:=λD=>by
 specialize eZ ["n","g"] D.lM.F;let⟨r,d,s,a,rfl,R,b,c,k⟩:=h;exists _,#v[aK (aF D.Gs (nj D) hr #[_fJ.vF D.Qi (D.T.qU _ D.Qi.m) (GG D) hr #[0,1]])]
 rfl'
 let e:=R.bd s b c;let e:=ku (a s);refine⟨Y,Y,r,d,s,a,1,R.at_,R.len,R.ents,R.snd,R.rk,b,c,R.QB,R.bd,λo f e d g=>?_⟩;refine⟨o,cy (a s),1,e,by lia,λq e a f g=>k q e ?_ (d.trans f) (aU d g)⟩;rw[oG _ (jf _),dm,NF (oO R.snd R.rk R.QB s b c)]at a;exact a
abbrev lI(a:gS):HO:=.lst (a.map λw=>V.str (gi w))
abbrev QI:List (Str × Int):=[(Str.ofString "5",0),(Str.ofString "cut",3),(Str.ofString "move",4),(Str.ofString "quote",5),(Str.ofString "window",3),(Str.ofString "fix",1),(Str.ofString "back",2),(Str.ofString "fork",2),(Str.ofString "untie",1),(Str.ofString "read",1)]
abbrev YU:List (Str × Int):=[(Str.ofString "put",2),(Str.ofString "strike",0),(Str.ofString "blot",1),(Str.ofString "lift",1)]
def jR(D:List (Str × Int))(n:List Nat):Option Int:=(D.find? λp=>decide (gi n=p.1)).map (·.2)
def AF{D:List (Str × Int)}{n:List Nat}{i:Int}(h:jR D n=⇑i):(D.find? λp=>decide (gi n=p.1))=⇑(gi n,i):=by
 unfold jR at h;let⟨⟨x,j⟩,e,rfl⟩:=Option.map_eq_some_iff.mp h;let z:=List.find?_some e;have:gi n=x:=of_decide_eq_true z;rw[e,this]
abbrev GO:List Nat:=[116,105,101]
inductive jz where
 | xg (h:Int) (t:List Nat)
 | plain (n:List Nat) (a:Wp)
 | oQ (n:List Nat) (a:Wp) (r:Row)
def jz.At(H:Hp)(p:Addr):jz->Prop
 | .xg h t=>H p=⇑(.tup [.str "pour",.int h,.str (gi t)])
 | .plain n ns=>H p=⇑(.tup (.str (gi n)::ns.map V.int))
 | .oQ n ns r=>∃ q,H p=⇑(.tup (.str (gi n)::ns.map V.int++[↥q]))/\bU H q r
def jS(n:Int):Prop:=0<=n/\n<10^60
def JV(r:Row):Prop:=↑r<=29/\∀ p∈r,jS p.1/\jS p.2
def jz.Ok:jz->Prop
 | .xg h t=>jS h/\↑t<=200
 | .plain n ns=>jR QI n=⇑(↑ns:Int)/\∀ x∈ns,jS x
 | .oQ n ns r=>jR YU n=⇑(↑ns:Int)/\(∀ x∈ns,jS x)/\JV r
abbrev vS(p:Int × Int):List Nat:=_i6.dg p.1++45::_i6.dg p.2
def NJ{p:Int × Int}(h:jS p.1/\jS p.2):↑(vS p)<=121:=by
 rw[cY,kH];let a:=_i6.JH h.1.1 h.1.2;let b:=_i6.JH h.2.1 h.2.2;lia
def Em{n:Int}(h:jS n):n.natAbs.log2<1920:=by
 let⟨a,b⟩:=h;by_cases z:n.natAbs=0
 ·rw[z];decide
 ·rw[Nat.log2_lt z];let a:n.natAbs<10^60:=by lia
  exact qw a (iG (show (10:Nat)^60<=2^200 by decide) (Nat.pow_le_pow_right (by decide) (by decide)))
inductive iQ where
 | num (x:Int)
 | tx (t:List Nat)
 | row (r:Row)
def iQ.At(H:Hp)(v:V):iQ->Prop
 | .num x=>v=.int x
 | .tx t=>v=.str (gi t)
 | .row r=>∃ q,v=↥q/\bU H q r
def iQ.Ok:iQ->Prop
 | .num x=>jS x
 | .tx t=>↑t<=200
 | .row r=>JV r
abbrev GP(r:Row):List Nat:=r.flatMap λp=>32::vS p
def iQ.line:iQ->List Nat
 | .num x=>32::_i6.dg x
 | .tx t=>32::t
 | .row r=>GP r
def QJ{r:Row}(h:JV r):↑(GP r)<=4000:=by
 let a:∀ l:Row,(∀ p∈l,jS p.1/\jS p.2)->↑(GP l)<=122*↑l:=by
  intro l
  induction l with
  | nil=>intro _;exact fF _
  | cons p l b =>
   intro g;let z:=b λq b=>g q (j0 _ b);have b:=NJ (g p qx);show ↑((32::vS p)++GP l)<=_;rw[cY,kH,kH];lia
 have:=a r h.2;have:=h.1;lia
def iQ.GQ{p:iQ}(h:p.Ok):↑p.line<=4000:=by
 cases p with
 | num x=>have:=_i6.JH h.1 h.2;show ↑(32::_i6.dg x)<=_;rw[kH];lia
 | tx t=>let a:↑t<=200:=h;show ↑(32::t)<=_;rw[kH];lia
 | row r=>exact QJ h
def jz.nm:jz->List Nat
 | .xg _ _=>[112,111,117,114]
 | .plain n _=>n
 | .oQ n _ _=>n
def jz.parts:jz->List iQ
 | .xg h t=>[.num h,.tx t]
 | .plain _ ns=>ns.map .num
 | .oQ _ ns r=>ns.map .num++[.row r]
def jz.line:jz->List Nat
 | d=>d.nm++d.parts.flatMap iQ.line
def QK{H:Hp}{p:Addr}{d:jz}(h:d.At H p):∃ b,H p=⇑(.tup (.str (gi d.nm)::b))/\cP (λv q=>iQ.At H v q) b d.parts:=by
 let c:∀ a:List Int,cP (λv q=>iQ.At H v q) (a.map V.int) (a.map iQ.num):=λa=>by
  induction a with
  | nil=>exact .nil
  | cons x a e=>exact .cons rfl e
 cases d with
 | xg x t=>exact⟨_,by rw[h,show Str.ofString "pour"=gi [112,111,117,114] by decide +kernel];rfl,.cons rfl (.cons rfl .nil)⟩
 | plain n a=>exact⟨_,h,c a⟩
 | oQ n a r =>
  let⟨q,e,z⟩:=h;exact⟨a.map V.int++[↥q],by rw[e];rfl,(c a).snoc ⟨q,1,z⟩⟩
def NK{d:jz}(h:d.Ok):∀ q∈d.parts,q.Ok:=by
 cases d with
 | xg x t =>
  intro q a;rcases List.mem_cons.mp a with z|z
  ·rw[z];exact h.1
  ·rw[List.mem_singleton.mp z];exact h.2
 | plain n ns =>
  intro q a;let⟨x,b,rfl⟩:=List.mem_map.mp a;exact h.2 x b
 | oQ n ns r =>
  intro q a;rcases List.mem_append.mp a with z|z
  ·let⟨x,b,rfl⟩:=List.mem_map.mp z;exact h.2.1 x b
  ·rw[List.mem_singleton.mp z];exact h.2.2
theorem GR{H:Hp}:∀ {a:List V} {b:List iQ} {i:Nat} {v:V},cP (λv q=>iQ.At H v q) a b->a[i]?=⇑v->∃ q,b[i]?=⇑q/\q.At H v
 | _,_,_,_,.nil,h=>by simp at h
 | _,_,0,_,.cons o t,h=>by
  let e:=qz h;subst e;exact⟨Y,o⟩
 | _,_,i+1,_,.cons o t,h=>by
  let⟨q,e,z⟩:=GR (i:=i) t (by simpa using h);exact⟨q,by simpa using e,z⟩
def Dg{a:List iQ}(h:∀ q∈a,q.Ok):↑(a.flatMap iQ.line)<=4000*↑a:=by
 induction a with
 | nil=>exact mR _
 | cons p a b =>
  let z:=b λq b=>h q (j0 _ b);have b:=iQ.GQ (h p qx);rw[i7,cY,kH,Nat.mul_add,Nat.mul_one];lia
def UM(n:List Nat):∀ a:gS,_i6.jn 32 (n::a)=n++a.flatMap (λw=>32::w):=by
 intro a
 induction a generalizing n with
 | nil=>show n=_;simp
 | cons w a b =>
  show n++32::_i6.jn 32 (w::a)=_;rw[b w,i7];simp
def GS{D:List (Str × Int)}{n:List Nat}{k:Int}(a:∀ p∈D,32∉p.1.cps.toList/\p.1.cps.toList≠[112,111,117,114]/\p.1.cps.toList≠GO/\↑p.1.cps.toList<=10)(h:jR D n=⇑k):32∉n/\n≠[112,111,117,114]/\n≠GO/\↑n<=10:=by
 let z:=a _ (List.mem_of_find?_eq_some (AF h));let e:(gi n).cps.toList=n:=_i6.vE n;rw[show ((gi n,k):Str × Int).1=gi n from rfl,e]at z;exact z
theorem QL{n:List Nat}{k:Int}(h:jR QI n=⇑k):32∉n/\n≠[112,111,117,114]/\n≠GO/\↑n<=10:=GS nofun h
theorem QM{n:List Nat}{k:Int}(h:jR YU n=⇑k):32∉n/\n≠[112,111,117,114]/\n≠GO/\↑n<=10:=GS nofun h
def QN(r:Row):GP r=(r.map vS).flatMap λw=>32::w:=by
 induction r with
 | nil=>rfl
 | cons x r a=>rw[iu,i7,← a];rfl
def jz.At.same{H a:Hp}{p:Addr}{d:jz}(h:d.At H p)(s:aJ H a):d.At a p:=by
 cases d with
 | xg x t=>exact s _ _ h
 | plain n ns=>exact s _ _ h
 | oQ n ns r=>let⟨q,e,b⟩:=h;exact⟨q,s _ _ e,b.same s⟩
def NL{n:List Nat}{k:Int}(h:jR QI n=⇑k):k<=5:=by
 let z:∀ p∈QI,p.2<=5:=by decide +kernel
 exact z _ (List.mem_of_find?_eq_some (AF h))
def NN{n:List Nat}{k:Int}(h:jR YU n=⇑k):k<=5:=by
 let z:∀ p∈YU,p.2<=5:=by decide +kernel
 exact z _ (List.mem_of_find?_eq_some (AF h))
def JW{d:jz}(a:d.Ok):d.nm≠GO/\↑d.nm<=10/\↑d.parts<=10:=by
 cases d with
 | xg x t=>exact⟨by show [112,111,117,114]≠GO;decide,by show 4<=10;decide,by show 2<=10;decide⟩
 | plain n ns =>
  let⟨_,_,b,c⟩:=QL a.1;have:=NL a.1;exact⟨b,c,by show ↑(ns.map iQ.num)<=10;rw[b8];lia⟩
 | oQ n ns r =>
  let⟨_,_,b,c⟩:=QM a.1;have:=NN a.1;exact⟨b,c,by show ↑(ns.map iQ.num++[iQ.row r])<=10;rw[cY,b8];show ↑ns+1<=10;lia⟩
class inductive AG
 | mk (q:Addr) (r:Row) (_:vs=[↥q]) (_:bU H q r) (_:JV r) (_: ∀ (a:Addr) (b:Hp),b a=⇑(lI (r.map vS))->aJ H b->H a=none->Q ↥a b)
def QO{a b:Int}(c:0<=a)(d:0<=b):(Str.empty++Str.ofString (toString a)++Str.ofString "-"++Str.ofString (toString b))=gi (vS (a,b)):=by
 rw[_i6.yS c,_i6.yS d,show Str.ofString "-"=gi [45] by decide +kernel,show Str.empty=gi [] from rfl,D4,D4,D4];simp
theorem En:‹(1,39,["j"],AG)›:=λD=>by
 specialize eZ ["j"] D.Ur.F;let⟨q,r,rfl,⟨i,e,m⟩,⟨u,o⟩,k⟩:=h;refine⟨_,#v[aK (gO (N:=["i","o"]) (jJ (c:=b9 tZ) (f:=["j"]) (d:=[none,none]) rfl rfl rfl nofun nofun rfl nofun rfl nofun) rfl (cC (pv 0)) (λ_ _ _ _ _ _=>(rK (n:=2) rfl (bR (bW 0) (bR (bW 1) gB)))) (λ_ _ _ _ _ _=>gU) (λ_ _ _ _ _ _=>(_i6.Qe (_i6.LP (pv 0) (_i6.Uj (_i6.LP (pv 1) _i6.Ui))))))],?_⟩
 rfl'
 let p:=Paired.length m;refine⟨Y,q,1,⟨_,bJ.of e⟩,λf g=>gv (K:=bV) (h:=q) (a:=i.map V.ref) (λi c a=>∃ j l:Option V,c=[j,l]/\a f=⇑(lI ((r.take i).map vS))/\aJ H a) ⟨none,none,1,af,ao g _⟩ (by rintro i c a _ ⟨_,_,_,_,b⟩;exact bJ.of (b _ _ e)) ?_ ?_⟩
 ·rintro i y c a n ⟨j,l,rfl,d,b⟩;rw[kB]at n;let⟨s,t,rfl⟩:=Option.map_eq_some_iff.mp n;let⟨n,i,q⟩:=m.get t;let e:=o n (mC i);let m:=(List.getElem?_eq_some_iff.mp i).1;exists s,Y,dN.of (b _ _ q),1,E,1,Z;refine⟨Y,Y,Em e.1,Y,Y,Em e.2,_,d,aQ (by rw[b8,b8,gI];lia),E,1,?_,bQ g b (aI f _ _)⟩;rw[af,take_snoc i,gm,iu,List.map_nil,QO e.1.1 e.2.1];show some (HO.lst _)=⇑(HO.lst _);rw[gm];rfl
 ·rintro c a ⟨j,l,rfl,d,b⟩;rw[b8,p,gQ]at d;exact k f a d b g
def iQ.words:iQ->gS
 | .num x=>[_i6.dg x]
 | .tx t=>[t]
 | .row r=>r.map vS
def uA(a:List iQ):(a.flatMap iQ.words).flatMap (λw=>32::w)=a.flatMap iQ.line:=by
 induction a with
 | nil=>rfl
 | cons p a b =>
  rw[i7,i7,List.flatMap_append,b];congr 1
  cases p with
  | num x=>show (32::_i6.dg x)++[]=32::_i6.dg x;rw[ir]
  | tx t=>show (32::t)++[]=32::t;rw[ir]
  | row r=>exact (QN r).symm
class inductive QS
 | mk (p:Addr) (d:jz) (_:vs=[↥p]) (_:d.At H p) (_:d.Ok) (_:d.nm≠GO/\↑d.nm<=10/\↑d.parts<=10) (_: ∀ a,aJ H a->Q (.str (gi d.line)) a)
def GU(W:gS):(W.map List.length).sum+↑W=↑(W.flatMap λw=>32::w):=by
 induction W with
 | nil=>rfl
 | cons x W a =>
  rw[iu,List.sum_cons,kH,i7,cY,kH,← a];lia
theorem NO(a b:gS):(a.map λw=>V.str (gi w))++(b.map λw=>V.str (gi w))=(a++b).map λw=>V.str (gi w):=List.map_append.symm
theorem BB:‹(2,40,["V"],QS)›:=λD=>by
 let l:aZ cX bf bV cW cV cQ 1 _ _ ["j"] AG:=En D;refine eZ ["V","words","thing"] D.lQ.F λdc A zn s H vs Q E hr _ h=>?_;let⟨p,d,rfl,R,S,T,U⟩:=h;refine⟨_,#v[bN (aV eV (aR bh (pv 0) az) bw (bz _)) #v[aK (dZ PySem.F.plainAttrs_str PySem.F.slot_str_join PySem.F.type_str_join _i6.Gp bw #[bG iZ (bG iZ (bG iZ (bM #[bw]) (aF D.Ur l hr #[aR bh (pv 0) az])) (bM #[bw])) (aF D.Ur l hr #[aR bh (pv 0) az])])] bu,aY 1 (bM #[aR bh (pv 0) az]),eO PassesOwn.never rfl (Xn (jb Xx (pv 0) (jj az) nH)) (bW 2) #v[tS (i:=1) (by assumption) rfl (Or.inl rfl) (FE (jq (cA ff rfl D.T.eE yo #[2,pQ rfl D.T.jv tR])) (aF D.Ur l hr #[2]) (bM #[_Bs.u0 (pv 2)])) wM],aK (dZ PySem.F.plainAttrs_str PySem.F.slot_str_join PySem.F.type_str_join _i6.Gp bw #[1])],?_⟩
 rfl'
 let tt:Str.ofString "tie"=gi GO:=by decide +kernel
 let W:kitOne bV (.type "int") (.type "h")=⇑false:=by kernel_rfl
 let X:kitOne bV (.type "str") (.type "h")=⇑false:=by kernel_rfl
 let⟨vs,m,F⟩:=QK R;let⟨n1,l,R⟩:=T;let w:=NK S;let lv:=F.len;let ln:d.line=d.nm++d.parts.flatMap iQ.line:=rfl;exists Y,p,Q,V,dN.of m,ux;refine⟨1,Y,dO (λc=>absurd (of_decide_eq_true c) (by rw[tt];intro z;exact n1 (Uh (V.str.inj z)))) (λ_=>?_)⟩;refine⟨Y,p,Q,V,dN.of m,ux,mh,λa G=>?_⟩;let s0:=ao G (.lst [.str (gi d.nm)]);let I:(aO H a (.lst [.str (gi d.nm)])) a=⇑(lI [d.nm]):=af;refine⟨Y,Y,p,Y,dN.of (s0 _ _ m),?_,λc n=>?_⟩
 ·rintro⟨z,_⟩;let e:_HT.ji ↑(V.str (gi d.nm)::vs) 0 (some 1)=min 1 ↑(V.str (gi d.nm)::vs):=_HT.Lh _ _ 1;let b:_HT.ji ↑(V.str (gi d.nm)::vs) 0 (some 1)=0:=z;rw[e,kH]at b;lia
 let ec:kL (V.str (gi d.nm)::vs) (some 1) none=vs:=by
  unfold kL;let e:_HT.ji ↑(V.str (gi d.nm)::vs) 0 (some 1)=1:=(_HT.Lh _ _ 1).trans (by rw[kH];lia);let b:_HT.ji ↑(V.str (gi d.nm)::vs) ↑(V.str (gi d.nm)::vs) none=↑vs+1:=rfl;rw[e,b];show vs.take (↑vs+1-1)=vs;exact qv ∅
 rw[ec];change (aO H a (.lst [.str (gi d.nm)])) c=none at n;let l:=ao n (.tup vs);let y:(aO (aO H a (.lst [.str (gi d.nm)])) c (.tup vs)) c=⇑(.tup vs):=af;let J:=l _ _ I;let L:=s0.trans l;let ab:a≠c:=aB I n;generalize aO (aO H a (.lst [.str (gi d.nm)])) c (.tup vs)=l at L y J;refine⟨c,1,⟨_,dN.of y⟩,SR (K:=bV) (e:=c) (b:=vs) (λi r e=>∃ u:Option V,r=[⇑↥p,⇑↥a,u]/\e a=⇑(lI (d.nm::(d.parts.take i).flatMap iQ.words))/\e c=⇑(.tup vs)/\aJ H e) ⟨none,1,by rw[List.take_zero,List.flatMap_nil];exact J,y,L⟩ (by rintro i r e _ ⟨_,_,_,g,_⟩;exact dN.of g) ?_ ?_⟩
 ·rintro i M r e hi ⟨u,rfl,g,N,v⟩;let⟨q,l,k⟩:=GR F hi;let j:=w q (mC l);let m:=iQ.GQ j;let fl:=Dg (a:=d.parts.take i) λq k=>w q (List.mem_of_mem_take k);have m:↑(d.parts.take i)<=10:=by rw[gI];lia
  let z:=GU ((d.parts.take i).flatMap iQ.words);rw[uA]at z
  let nx:d.nm::(d.parts.take (i+1)).flatMap iQ.words=(d.nm::(d.parts.take i).flatMap iQ.words)++q.words:=by
   rw[take_snoc l,List.flatMap_append,i7,List.flatMap_nil,ir,List.cons_append]
  let l:↑(d.nm::(d.parts.take i).flatMap iQ.words)<=50000:=by rw[kH];lia
  let l:↑q.words<=29:=by
   cases q with
   | num x=>show 1<=29;decide
   | tx t=>show 1<=29;decide
   | row x=>show ↑(x.map vS)<=29;rw[b8];exact j.1
  let B:∀ (t:Addr) (b:Hp) (y:V),aJ e b->e t=none->b t=⇑(lI q.words)->∃ (l F:Addr) (m n:List V),V.ref a=↥l/\V.ref t=↥F/\b l=⇑(.lst m)/\b F=⇑(.lst n)/\↑m+↑n<=sizeLine/\∃ u:Option V,([⇑↥p,⇑↥a,⇑y]:List (Option V)).set 1 (⇑↥l)=[⇑↥p,⇑↥a,u]/\(aO b l (.lst (m++n))) a=⇑(lI (d.nm::(d.parts.take (i+1)).flatMap iQ.words))/\(aO b l (.lst (m++n))) c=⇑(.tup vs)/\aJ H (aO b l (.lst (m++n))):=by
   intro t b y o f C;exists a,t,Z,o _ _ g,C,gV (aQ (by rw[b8,b8];lia)),Y,?_,?_
   ·rw[NO,af,nx]
   ·rw[aN ab.symm];exact o _ _ N
   ·exact bQ G (v.trans o) (aI a _ _)
  cases q with
  | num x =>
   cases (show M=.int x from k);refine⟨Y,Y,_,"h",E,1,.int x,W,Y,fT ⟨Y,.inl ⟨x,1,Em j,?_⟩⟩⟩;rw[_i6.yS j.1];exact⟨mh,λt f=>B t _ (.int x) (ao f _) f af⟩
  | tx t =>
   cases (show M=.str (gi t) from k);let c:↑t<=200:=j;refine⟨Y,Y,_,"h",E,1,.str _,X,Y,fT ⟨Y,.inr ⟨t,1,by lia,?_⟩⟩⟩;exact⟨mh,λc f=>B c _ (.str (gi t)) (ao f _) f af⟩
  | row x =>
   let⟨O,rfl,hr⟩:=k;let c:=hr.same v;let⟨k,i,_⟩:=id c;refine⟨Y,Y,_,"h",E,1,.lst i,jl bV,Y,iK ?_⟩;exact⟨Y,O,x,1,c,j,λt b C o f=>B t b ↥O o f C⟩
 ·rintro r e ⟨u,rfl,g,N,v⟩;rw[lv,gQ]at g;let z:=GU (d.parts.flatMap iQ.words);rw[uA]at z;let fl:=Dg (a:=d.parts) w;exists 1,Y,a,32,_,by rw[show Str.ofString " "=⟨(List.toArray [32])⟩ by decide +kernel],1,g,?_
  ·rw[iu,List.sum_cons,kH];lia
  rw[UM,uA,← ln];exact U e v
structure ot(S:Y1)(H:Hp)(st op r:Addr)(aS:List aX):Prop where
 own:S r
 ne:r≠st/\r≠op
 at':ck H ↥r aS
def JX(b:Y1)(H:Hp)(c d a:Addr)(f:List (List aX)):Prop:=b a/\a≠c/\a≠d/\∃ e:List Addr,H a=⇑(.lst (e.map V.ref))/\cP (ot b H c d) e f
abbrev lJ:=List (List (List aX))
structure fg(bP:lJ)(ops:Wp):Prop where
 Dh:∃ last,bP.getLast?=⇑last/\↑ops=↑last
 fit:∀ (s:Nat) (o:Int),ops[s]?=⇑o->0<=o/\o<↑bP/\∀ (m:Nat) (rows:List (List aX)),bP[m]?=⇑rows->(o<=m↔s<↑rows)
 less:∀ (m:Nat) (rows:List (List aX)),bP[m]?=⇑rows->↑rows<=↑ops
structure Sh(C:Addr)(S:Y1)(H:Hp)(x d st op:Addr)(bP:lJ)(ops:Wp):Prop where
 sx:S x
 ss:S st
 so:S op
 al:∀ a,S a->∃ ob,H a=⇑ob
 hx:H x=⇑(.ins C d [("D",↥st),("z",↥op)])
 hs:∃ as:List Addr,H st=⇑(.lst (as.map V.ref))/\cP (JX S H st op) as bP
 ho:H op=⇑(.lst (ops.map V.int))
 ne:st≠op
 Sw:fg bP ops
def ck.fr{H b:Hp}{r:Addr}{d:List aX}(h:ck H ↥r d)(k:∀ a,H r=⇑(.lst a)->b r=⇑(.lst a))(t:∀ c a,H c=⇑(.tup a)->b c=⇑(.tup a)):ck b ↥r d:=by
 let⟨c,f,e,g,i⟩:=h;cases e;exact⟨r,f,1,k _ g,i.mono λv i ⟨f,e,g⟩=>⟨f,e,t _ _ g⟩⟩
def JX.fr{b f:Y1}{H c:Hp}{d a:Addr}{g:List (List aX)}(o:JX b H d h a g)(i:∀ a,b a->f a)(k:∀ a j,H a=⇑j->b a->a≠d->a≠h->c a=⇑j)(t:∀ a e,H a=⇑(.tup e)->c a=⇑(.tup e)):JX f c d h a g:=by
 let⟨l,m,n,p,q,r⟩:=o;exact⟨i _ l,m,n,p,k _ _ q l m n,r.mono λr l q=>⟨i _ q.own,q.ne,q.at'.fr (λe l=>k _ _ l q.own q.ne.1 q.ne.2) t⟩⟩
def Sh.fr{C:Addr}{c:Y1}{H d:Hp}{x f g:Addr}{h:lJ}{i:Wp}(l:Sh C c H x f g m h i)(k:∀ a b,H a=⇑b->c a->d a=⇑b)(t:∀ a j,H a=⇑(.tup j)->d a=⇑(.tup j)):Sh C c d x f g m h i:=by
 let⟨sx,ss,so,al,hx,⟨e,hs,n⟩,ho,ne,Sw⟩:=l;refine⟨sx,ss,so,λa z=>?_,k _ _ hx sx,⟨e,k _ _ hs ss,n.mono λa e q=>q.fr (λ_ z=>z) (λa b e z _ _=>k _ _ e z) t⟩,k _ _ ho so,ne,Sw⟩;let⟨b,e⟩:=al a z;exact⟨b,k _ _ e z⟩
theorem Sh.same{C:Addr}{a:Y1}{H b:Hp}{x d c:Addr}{f:lJ}{g:Wp}(i:Sh C a H x d c j f g)(k:aJ H b):Sh C a b x d c j f g:=i.fr (λh l e _=>k h l e) (λh h e=>k _ _ e)
theorem Sh.keep{C:Addr}{a:Y1}{H b:Hp}{x d c l:Addr}{f:lJ}{g:Wp}{i:List V}(j:Sh C a H x d c m f g)(n:H l=⇑(.lst i))(o:¬ a l)(k:cD l H b):Sh C a b x d c m f g :=
 j.fr (λh p e z=>k h p e (λq=>o (by rw[← q];exact z))) (λh h e=>k _ _ e (cS e n))
theorem AH:∀ {c d:WF},c.map V.ref=d.map V.ref->c=d
 | [],[],_=>rfl
 | [],_::_,h=>by cases h
 | _::_,[],h=>by cases h
 | a::c,b::d,h=>by
  rw[iu,iu]at h;injection h with e f;cases e;rw[AH f]
def Sh.last{C:Addr}{i:Y1}{H:Hp}{x l f:Addr}{a:lJ}{m:Wp}(j:Sh C i H x l f n a m){g:WF}(o:H f=⇑(.lst (g.map V.ref))):∃ h b,g=h++[b]/\∀ last,a.getLast?=⇑last->JX i H f n b last:=by
 let⟨p,k,q⟩:=j.hs
 let e:g=p:=by
  rw[o]at k;have:=HO.lst.inj (qz k);exact AH this
 subst e;let⟨last,c,_⟩:=j.Sw.Dh
 obtain⟨d,rfl⟩:∃ d,a=d++[last]:=by
  rcases lY a with rfl|⟨d,r,rfl⟩
  ·cases c
  ·rw[j3,mQ]at c;cases c;exact⟨d,j3⟩
 let⟨h,b,rfl,_,s⟩:=q.split;refine⟨h,b,1,λr e=>?_⟩;rw[c]at e;cases e;exact s
def uC(a:List V){p:Int}(h:0<=p):kL a none (⇑p)=a.take p.toNat:=by
 unfold kL;let b:_HT.ji ↑a 0 none=0:=rfl
 let c:_HT.ji ↑a ↑a (⇑p)=min p.toNat ↑a:=by
  show (if p<0 then (p+(↑a:Int)).toNat else min p.toNat ↑a)=_;rw[if_neg ∅]
 rw[b,c,List.drop_zero,Nat.sub_zero];rcases Nat.le_total p.toNat ↑a with z|z
 ·rw[Nat.min_eq_left z]
 ·rw[Nat.min_eq_right z,qv (fF _),qv z]
def xh(a:List V){p:Int}(h:0<=p):kL a (⇑p) none=a.drop p.toNat:=by
 unfold kL;let b:_HT.ji ↑a ↑a none=↑a:=rfl
 let c:_HT.ji ↑a 0 (⇑p)=min p.toNat ↑a:=by
  show (if p<0 then (p+(↑a:Int)).toNat else min p.toNat ↑a)=_;rw[if_neg ∅]
 rw[b,c];rcases Nat.le_total p.toNat ↑a with z|z
 ·rw[Nat.min_eq_left z,qv (by rw[qy];lia)]
 ·rw[Nat.min_eq_right z,yp (fF _),yp z];simp
class inductive NP
 | mk (a r:Addr) (b:List V) (s:Nat) (_:vs=[↥a,.int (s:Nat),↥r]) (_:H a=⇑(.lst b)) (_:s<=↑b) (_:↑b<=1000) (_: ∀ (p:Addr) (c:Hp),c p=⇑(.lst (b.take s++[↥r]++b.drop (s+1)))->aJ H c->H p=none->Q ↥p c)
class inductive UN(C:Addr)
 | mk (x e:Addr) (_:vs=[↥x]) (_:H x=⇑(.ins C e [])) (_: ∀ (b c z:Addr) (d:Hp),Sh C (λa=>a=x\/a=b\/a=c\/a=z) d x e b c [[]] []->cD x H d->H b=none->H c=none->H z=none->Q .gc d)
class inductive v4(C:Addr)
 | mk (x d a c:Addr) (b:List V) (_:vs=[↥x]) (_:H x=⇑(.ins C d [("D",↥a),("z",↥c)])) (_:H a=⇑(.lst b)) (_:Q (.int ((↑b:Nat)-1)) H)
class inductive YV(C:Addr)
 | mk (b:Y1) (x d c e:Addr) (f:lJ) (a:Wp) (_:vs=[↥x]) (_:Sh C b H x d c e f a) (_:Q (.int (↑a:Nat)) H)
theorem AI:‹(1,41,["state","g","l"],NP)›:=λD=>by
 specialize eZ ["state","g","l"] D.Ys.F;let⟨j,r,a,s0,rfl,k,n,x,w⟩:=h;exists _,#v[bN (iY (qE gJ gJ az (pv 1) (fR D.T.fE (pv 0)))) #v[iH] bu,aK (bG iZ (bG iZ (jb l6 (pv 0) nH (jj (pv 1))) (bM #[2])) (jb l6 (pv 0) (jj (bG dY (pv 1) az)) nH))]
 rfl'
 refine⟨Y,Z,Y,dO (λn=>?_) (λn=>absurd (decide_eq_true ∅) n)⟩;exists Y,j,Y,.inl (bJ.of k),Z,Y;rw[decide_eq_true (show ((s0:Nat):Int)<=((↑a:Nat):Int) by lia)];refine fT ?_;refine⟨Y,Y,Y,j,Y,bJ.of k,λb n=>?_⟩;rw[uC _ ∅,Int.toNat_natCast];let o:aJ H (aO H b (.lst (a.take s0))):=ao n _;let p:(aO H b (.lst (a.take s0))) b=⇑(.lst (a.take s0)):=af;generalize aO H b (.lst (a.take s0))=f at o p;refine⟨Y,mh,λc n=>?_⟩;let l:aJ f (aO f c (.lst [↥r])):=ao n _;let q:(aO f c (.lst [↥r])) c=⇑(.lst [↥r]):=af;generalize aO f c (.lst [↥r])=g at l q;refine⟨b,c,Z,l _ _ p,q,(by rw[gI];exact gV (aQ (by simp only[iA];lia))),λd b=>?_⟩;let s:aJ g (aO g d (.lst (a.take s0++[↥r]))):=ao b _;let t:(aO g d (.lst (a.take s0++[↥r]))) d=⇑(.lst (a.take s0++[↥r])):=af;generalize aO g d (.lst (a.take s0++[↥r]))=i at s t;let u:=o.trans (l.trans s);refine⟨Y,Y,Z,Y,j,Y,bJ.of (u _ _ k),λe b=>?_⟩;rw[xh _ ∅,show (((s0:Nat):Int)+1).toNat=s0+1 by lia];let m:aJ i (aO i e (.lst (a.drop (s0+1)))):=ao b _;let v:(aO i e (.lst (a.drop (s0+1)))) e=⇑(.lst (a.drop (s0+1))):=af;generalize aO i e (.lst (a.drop (s0+1)))=a at m v;refine⟨d,e,Z,m _ _ t,v,(by rw[cY,gI,qy];exact gV (aQ (by simp only[iA];lia))),λc a=>?_⟩;let b:=u.trans m;exact w c _ af (b.trans (ao a _)) (aU b a)
theorem vU:‹(1,42,["c"],(UN cH))›:=λD=>by
 specialize eZ ["c"] D.l5.F;let⟨x,d,rfl,n,F⟩:=h;exists _,#v[iJ (pv 0) (bM #[bM ah]) rfl,iJ (pv 0) (bM ah) rfl]
 rfl'
 refine⟨iz,λz o=>?_⟩;let i:aJ H (aO H z (.lst [])):=ao o _;let p:(aO H z (.lst [])) z=⇑(.lst []):=af;generalize aO H z (.lst [])=j at i p;refine⟨mh,λa k=>?_⟩;let q:aJ j (aO j a (.lst [↥z])):=ao k _;let y:(aO j a (.lst [↥z])) a=⇑(.lst [↥z]):=af;generalize aO j a (.lst [↥z])=l at q y;let r:=i.trans q;refine⟨Y,x,cH,d,Y,r _ _ n,D.dF.cl,D.l9,by decide,?_⟩;let g:cD x l (aO l x (.ins cH d (_L2.fk "D" ↥a []))):=aI x _ _;let s:(aO l x (.ins cH d (_L2.fk "D" ↥a []))) x=⇑(.ins cH d [("D",↥a)]):=af;generalize aO l x (.ins cH d (_L2.fk "D" ↥a []))=f at g s;let j:a≠x:=(aB (i _ _ n) k).symm;let l:z≠x:=(aB n o).symm;let G:z≠a:=aB p k;let n:=g _ _ y j;let y:=g _ _ (q _ _ p) l;refine⟨iz,λb c=>?_⟩;let B:b≠x:=(aB s c).symm;let I:a≠b:=aB n c;let J:z≠b:=aB y c;refine⟨Y,x,cH,d,Y,ao c _ _ _ s,D.dF.cl,D.oF,(by show 1<1000;decide),?_⟩
 let C:cD x H (aO (aO f b (.lst [])) x (.ins cH d (_L2.fk "z" ↥b [("D",↥a)]))):=λL q e p=>by
  rw[aN p];exact ao c _ _ _ (g _ _ (r _ _ e) p)
 let t:(aO (aO f b (.lst [])) x (.ins cH d (_L2.fk "z" ↥b [("D",↥a)]))) z=⇑(.lst []):=by rw[aN l];exact ao c _ _ _ y
 let u:(aO (aO f b (.lst [])) x (.ins cH d (_L2.fk "z" ↥b [("D",↥a)]))) a=⇑(.lst [↥z]):=by rw[aN j];exact ao c _ _ _ n
 let v:(aO (aO f b (.lst [])) x (.ins cH d (_L2.fk "z" ↥b [("D",↥a)]))) b=⇑(.lst []):=by rw[aN B];exact af
 let w:(aO (aO f b (.lst [])) x (.ins cH d (_L2.fk "z" ↥b [("D",↥a)]))) x=⇑(.ins cH d [("D",↥a),("z",↥b)]):=af;generalize aO (aO f b (.lst [])) x (.ins cH d (_L2.fk "z" ↥b [("D",↥a)]))=d at C t u v w
 refine F a b z _ ⟨.inl rfl,.inr (.inl rfl),.inr (.inr (.inl rfl)),λL bf=>?_,w,⟨[z],u,.cons ⟨.inr (.inr (.inr rfl)),G,J,[],t,.nil⟩ .nil⟩,v,I,⟨⟨[],V⟩,λs0 a e=>(by cases s0 <;> cases e),λm a e=>?_⟩⟩ C (aU i k) ?_ o
 ·rcases bf with rfl|rfl|rfl|rfl
  ·exact⟨_,w⟩
  ·exact⟨_,u⟩
  ·exact⟨_,v⟩
  ·exact⟨_,t⟩
 ·match m,e with
  | 0,e=>cases e;exact fF _
  | m+1,e=>cases e
 ·exact aU r (gW g B c)
theorem mw:‹(1,43,["c"],(v4 cH))›:=λD=>by
 specialize eZ ["c"] D.Qj.F;let⟨x,d,a,e,f,rfl,b,c,k⟩:=h;exists _,#v[aK (bG dH (fR D.T.fE (cG (pv 0) rfl)) az)]
 rfl'
 exact⟨Y,x,cH,d,_,↥a,1,b,D.dF.cl,D.l9,1,a,Y,.inl (bJ.of c),Z,k⟩
theorem tN:‹(1,44,["c"],(YV cH))›:=λD=>by
 specialize eZ ["c"] D.Yt.F;let⟨S,x,d,a,i,j,l,rfl,W,k⟩:=h;let⟨i,b,j⟩:=W.hs;let⟨e,f,g⟩:=W.Sw.Dh;exists _,#v[aK (fR D.T.fE (aR bK (cG (pv 0) rfl) (iE gf az)))]
 rfl'
 let⟨m,c,rfl,r⟩:=W.last b;refine⟨Y,x,cH,d,_,↥a,1,W.hx,D.dF.cl,D.l9,1,Y,a,E,↥c,V,bJ.of b,(by rw[gm];exact gX _ _),?_⟩;let⟨_,_,_,d,a,b⟩:=r e f;exists c,Y,.inl (bJ.of a);rw[b8,b.len,← g];exact k
def ej(b:List (List aX))(a:Nat × List aX):List (List aX):=b.take a.1++[a.2]++b.drop (a.1+1)
def oh(a:List (List aX))(b:List (Nat × List aX)):List (List aX):=b.foldl ej a
def YX(c:List (List aX))(a:List (Nat × List aX)):Prop:=∀ (i:Nat) (b:Nat × List aX),a[i]?=⇑b->b.1<=↑(oh c (a.take i))
def UO{a:List (List aX)}{b:Nat × List aX}(h:b.1<=↑a):↑a<=↑(ej a b)/\↑(ej a b)<=↑a+1:=by
 unfold ej;rw[cY,cY,gI,qy];simp only[iA];lia
def Di{b:List (List aX)}{a:List (Nat × List aX)}{i:Nat}{c:Nat × List aX}(h:a[i]?=⇑c):oh b (a.take (i+1))=ej (oh b (a.take i)) c:=by
 unfold oh;rw[take_snoc h,List.foldl_append];rfl
theorem AJ{b:List (List aX)}{a:List (Nat × List aX)}(c:YX b a):∀ i,i<=↑a->↑b<=↑(oh b (a.take i))/\↑(oh b (a.take i))<=↑b+i
 | 0,_=>⟨Nat.le_refl _,fF _⟩
 | i+1,h=>by
  let e:a[i]?=⇑a[i]:=nT ∅;let d:=AJ c i ∅;let d:=UO (c i _ e);rw[Di e];lia
def fg.step{a:lJ}{d:Wp}{f b:List (List aX)}(i:fg a d)(j:a.getLast?=⇑f)(n:↑f<=↑b):fg (a++[b]) (d++List.replicate (↑b-↑f) ((↑a:Nat):Int)):=by
 let⟨⟨o,h,p⟩,fit,less⟩:=i;rw[j]at h;cases h
 let get:∀ (m:Nat) (r:List (List aX)),(a++[b])[m]?=⇑r->a[m]?=⇑r/\m<↑a\/m=↑a/\r=b:=λm r e=>by
  by_cases c:m<↑a
  ·rw[List.getElem?_append_left c]at e;exact .inl ⟨e,c⟩
  ·rw[List.getElem?_append_right ∅]at e
   match g:m-↑a,e with
   | 0,e=>cases e;exact .inr ⟨by lia,1⟩
   | k+1,e=>cases e
 refine⟨⟨b,mQ,by rw[cY,yq];lia⟩,λs o e=>?_,λm r e=>?_⟩
 ·by_cases c:s<↑d
  ·rw[List.getElem?_append_left c]at e;let⟨c,h,l⟩:=fit s o e;refine⟨c,by rw[cY];simp only[iA];lia,λm r g=>?_⟩;rcases get m r g with ⟨q,_⟩|⟨rfl,rfl⟩
   ·exact l m r q
   ·constructor
    ·intro _;lia
    ·intro _;lia
  ·rw[List.getElem?_append_right ∅,List.getElem?_replicate]at e;split at e
   ·cases e;refine⟨by lia,by rw[cY];simp only[iA];lia,λm r g=>?_⟩;rcases get m r g with ⟨q,l⟩|⟨rfl,rfl⟩
    ·have:=less m r q;constructor
     ·intro z;lia
     ·intro z;lia
    ·constructor
     ·intro _;lia
     ·intro _;lia
   ·cases e
 ·rw[cY,yq];rcases get m r e with ⟨q,_⟩|⟨rfl,rfl⟩
  ·have:=less m r q;lia
  ·lia
theorem cP.take{a b:Type}{c:a->b->Prop}:∀ {d:List a} {bs:List b} (n:Nat),cP c d bs->cP c (d.take n) (bs.take n)
 | _,_,0,_=>by rw[List.take_zero,List.take_zero];exact .nil
 | _,_,n+1,.nil=>.nil
 | _,_,n+1,.cons e r=>.cons e (r.take n)
theorem cP.drop{a b:Type}{c:a->b->Prop}:∀ {d:List a} {bs:List b} (n:Nat),cP c d bs->cP c (d.drop n) (bs.drop n)
 | _,_,0,h=>h
 | _,_,n+1,.nil=>.nil
 | _,_,n+1,.cons _ r=>r.drop n
theorem GV(v:V):∀ n:Nat,(List.replicate n [v]).flatten=List.replicate n v
 | 0=>rfl
 | n+1=>by rw[List.replicate_succ,List.flatten_cons,GV v n,List.replicate_succ];rfl
def UP{H:Hp}{a:Addr}{b:HO}(h:H a=⇑b):aO H a b=H:=by
 funext c;by_cases e:c=a
 ·rw[e,af,h]
 ·rw[aN e]
def JY(H:Hp)(b:Addr)(a:Nat × List aX):Prop:=∃ r:Addr,H b=⇑(.tup [.int (a.1:Nat),↥r])/\ck H ↥r a.2
theorem JY.same{H a:Hp}{b:Addr}{c:Nat × List aX}(s:aJ H a):JY H b c->JY a b c:=λ⟨r,d,e⟩=>⟨r,s _ _ d,e.same s⟩
class inductive QT(C:Addr)
 | mk (f:Y1) (x g h i j:Addr) (c:lJ) (k:Wp) (l:WF) (d:List (Nat × List aX)) (b:List (List aX)) (_:vs=[↥x,↥j]) (_:Sh C f H x g h i c k) (_:H j=⇑(.lst (l.map V.ref))) (_:cP (JY H) l d) (_:c.getLast?=⇑b) (_:YX b d) (_:↑d<=200) (_:↑b<=500) (_:↑c<=1000) (_ :
 ∀ (m:Y1) (e:Hp),Sh C m e x g h i (c++[oh b d]) (k++List.replicate (↑(oh b d)-↑b) ((↑c:Nat):Int))->(∀ a,m a->f a\/H a=none)->(∀ a n,H a=⇑n->¬ f a->e a=⇑n)->(∀ a o,H a=⇑(.tup o)->e a=⇑(.tup o))->Q .gc e)
theorem BD:‹(2,45,["c","1"],(QT cH))›:=λD=>by
 specialize eZ ["c","1","state","ahead","g","l"] D.l'.F;let⟨ab,x,o,a,b,ae,d,p,cs,m,g,rfl,W,hc,a2,G,ag,lc,ll,lp,ax⟩:=h;exists _,#v[aY 2 (aR bK (cG (pv 0) rfl) (iE gf az)),aY 3 (fR D.T.fE (pv 2)),eO PassesOwn.never rfl (cC (pv 1)) (j6 (n:=2) rfl (bR (bW 4) (bR (bW 5) gB))) #v[aY 2 (aF D.Ys (AI D) hr #[2,4,fP gK rfl D.T.jv tR #[5]])],aT (dZ oS jE jF bX (cG (pv 0) rfl) #[2]),wm (pv 0) (bG O5 (bM #[fD (pv 0) D.dF D.Qj (mw D) hr bH]) (bG dH (fR D.T.fE (pv 2)) (pv 3))) Jw]
 rfl'
 let⟨n,I,al⟩:=id W.hs;let⟨Sq,J,ea,ak⟩:=W.last I;let⟨Sa,a4,a5,rs,ha,ar⟩:=ak g G;let ay:=al.len;refine⟨Y,x,cH,o,_,↥a,1,W.hx,D.dF.cl,D.l9,1,Y,a,E,↥J,V,bJ.of I,(by rw[ea,gm];exact gX _ _),?_⟩;exists Y,J,Y,.inl (bJ.of ha);rw[b8,ar.len];let DC:∀ q,H q=none->q≠a/\q≠b:=λq L=>⟨λz=>(by rw[z,I]at L;cases L),λz=>(by rw[z,W.ho]at L;cases L)⟩;refine⟨Y,ae,1,⟨_,bJ.of hc⟩,dG (K:=bV) (e:=ae) (b:=cs.map V.ref) (λk M c=>∃ (u4 u5:Option V) (l:Y1) (f:Addr),M=[⇑↥x,⇑↥ae,⇑↥f,⇑(.int (↑g:Nat)),u4,u5]/\aJ H c/\(∀ q,ab q->l q)/\(∀ q,l q->ab q\/H q=none)/\(∀ q,l q->∃ i,c q=⇑i)/\JX l c a b f (oh g (m.take k))) ⟨none,none,ab,J,1,aJ.refl _,λ_ z=>z,λ_ z=>.inl z,W.al,ak g G⟩ (by rintro k M c _ ⟨_,_,_,_,_,s0,_⟩;exact bJ.of (s0 _ _ hc)) ?_ ?_⟩
 ·rintro k a3 M c U ⟨u4,u5,l,f,rfl,j,t,am,an,y⟩;rw[kB]at U;let⟨aA,et,rfl⟩:=Option.map_eq_some_iff.mp U;let⟨s,S,q⟩:=a2.get et;let L:=(List.getElem?_eq_some_iff.mp S).1;let⟨ri,ht,L⟩:=q.same j;let⟨U,vs,eb,hb,aH⟩:=id L;cases eb;let⟨a0,aw,a1,N,ap,O⟩:=id y;exists aA,Y,dN.of ht,1,E,1,Z;refine⟨Y,Y,Y,ri,Y,.inl (bJ.of hb),λz X=>?_⟩;let C:aJ c (aO c z (.lst vs)):=ao X _;let u:(aO c z (.lst vs)) z=⇑(.lst vs):=af;generalize aO c z (.lst vs)=B at C u;let aq:=AJ ag k ∅;let L:=ag k s S;let R:=O.len;refine⟨f,z,_,s.1,1,C _ _ ap,by rw[b8,R];exact L,by rw[b8,R];lia,λv w av r L=>?_⟩;let F:=C.trans r;let fz:H z=none:=aU j X;let T:H v=none:=aU (j.trans C) L;exists E,λq=>l q\/q=z\/q=v,v,1,j.trans F,λq z=>.inl (t q z),λq bf=>?_,λq bf=>?_,.inr (.inr rfl),(DC v T).1,(DC v T).2,N.take s.1++[z]++N.drop (s.1+1),?_
  ·rcases bf with bf|rfl|rfl
   ·exact am q bf
   ·exact .inr fz
   ·exact .inr T
  ·rcases bf with bf|rfl|rfl
   ·let⟨i,e⟩:=an q bf;exact⟨i,F _ _ e⟩
   ·exact⟨_,r _ _ u⟩
   ·exact⟨_,av⟩
  ·rw[av];simp only[gm,List.map_take,List.map_drop,iu,List.map_nil]
  ·rw[Di S];let e:cP (ot (λq=>l q\/q=z\/q=v) w a b) N (oh g (m.take k)):=O.mono λak i q=>⟨.inl q.own,q.ne,q.at'.same F⟩;refine ((e.take s.1).app (.cons ⟨.inr (.inl rfl),DC z fz,⟨z,vs,1,r _ _ u,aH.mono λv i q=>q.same F⟩⟩ .nil)).app (e.drop (s.1+1))
 ·rintro M c ⟨u4,u5,l,f,rfl,j,t,am,an,y⟩;let L:↑(cs.map V.ref)=↑m:=by rw[b8,a2.len]
  rw[L,gQ]at y;let aq:=AJ ag ↑m (fF _);rw[gQ]at aq;let⟨a0,aw,a1,N,ap,O⟩:=id y;let R:=O.len;let s:=W.same j;let S:=j _ _ I;refine⟨Y,x,cH,o,_,↥a,1,s.hx,D.dF.cl,D.l9,1,.inl ⟨1,_,bJ.of S⟩,Y,a,Z,S,(by rw[b8];exact aQ ∅),?_⟩;rw[show n.map V.ref++[↥f]=(n++[f]).map V.ref by rw[gm];rfl];let v:cD a c (aO c a (.lst ((n++[f]).map V.ref))):=aI a _ _;let av:(aO c a (.lst ((n++[f]).map V.ref))) a=⇑(.lst ((n++[f]).map V.ref)):=af;generalize aO c a (.lst ((n++[f]).map V.ref))=B at v av;let I:x≠a:=cS s.hx S;let aA:x≠b:=cS s.hx s.ho;let T:=v _ _ s.hx I;let o2:=v _ _ s.ho W.ne.symm;let aH:=v _ _ ap aw
  let I:(↑((n++[f]).map V.ref):Int)-1=((↑d:Nat):Int):=by
   rw[b8,cY,ay];simp only[iA];lia
  exists Y,x,cH,o,_,↥b,1,T,D.dF.cl,D.oF,1,Y,x,o,Y,T,1,x,o,a,b,Y,T,av;rw[I];refine⟨mh,λC I=>?_⟩;let r:aJ B (aO B C (.lst [.int (↑d:Nat)])):=ao I _;let b3:(aO B C (.lst [.int (↑d:Nat)])) C=⇑(.lst [.int (↑d:Nat)]):=af;generalize aO B C (.lst [.int (↑d:Nat)])=w at r b3;exists Y,f,Y,.inl (bJ.of (r _ _ aH)),Y,Z;rw[b8,R];let B:((↑(oh g m):Nat):Int)-((↑g:Nat):Int)=((↑(oh g m)-↑g:Nat):Int):=by lia
  show io _ (V.int (((↑(oh g m):Nat):Int)-((↑g:Nat):Int))) _ _;rw[B];refine⟨C,Z,b3,by lia,by lia,(by simp only[iA];exact gV (aQ ∅)),λF a3=>?_⟩;rw[Int.toNat_natCast,GV];generalize hk:↑(oh g m)-↑g=k;let s4:aJ w (aO w F (.lst (List.replicate k (V.int (↑d:Nat))))):=ao a3 _;let b4:(aO w F (.lst (List.replicate k (V.int (↑d:Nat))))) F=⇑(.lst (List.replicate k (V.int (↑d:Nat)))):=af;generalize aO w F (.lst (List.replicate k (V.int (↑d:Nat))))=U at s4 b4;let X:=r.trans s4
  let lo:↑p<=700:=by
   let⟨g,e,i⟩:=W.Sw.Dh;rw[G]at e;cases e;lia
  refine⟨b,F,Z,X _ _ o2,b4,(by rw[b8,yq];exact gV (aQ ∅)),?_⟩;rw[show p.map V.int++List.replicate k (V.int (↑d:Nat))=(p++List.replicate k ((↑d:Nat):Int)).map V.int by rw[gm,List.map_replicate]];let k5:cD b U (aO U b (.lst ((p++List.replicate k ((↑d:Nat):Int)).map V.int))):=aI b _ _;let o5:(aO U b (.lst ((p++List.replicate k ((↑d:Nat):Int)).map V.int))) b=⇑(.lst ((p++List.replicate k ((↑d:Nat):Int)).map V.int)):=af;generalize aO U b (.lst ((p++List.replicate k ((↑d:Nat):Int)).map V.int))=d at k5 o5;let p:=k5 _ _ (X _ _ T) aA;refine⟨o,_,p,(by show 2<1000;decide),?_⟩;let g:aO d x (.ins cH o (_L2.fk "z" ↥b ([("D",↥a),("z",↥b)]:List (Str × V))))=d:=UP p;rw[g];let g:∀ q i,c q=⇑i->q≠a->q≠b->d q=⇑i:=λq i e k m=>k5 _ _ (X _ _ (v _ _ e k)) m;have r:∀ q o,c q=⇑(.tup o)->d q=⇑(.tup o):=λq o e=>g _ _ e (cS e S) (cS e s.ho);have c:=k5 _ _ (X _ _ av) W.ne;refine ax l d ⟨t _ W.sx,t _ W.ss,t _ W.so,λq bf=>?_,p,⟨n++[f],c,?_⟩,by rw[hk];exact o5,W.ne,W.Sw.step G aq.1⟩ am (λq i e n=>?_) (λq o e=>r _ _ (j _ _ e))
  ·by_cases d:q=a
   ·rw[d];exact⟨_,c⟩
   by_cases u:q=b
   ·rw[u];exact⟨_,o5⟩
   let⟨i,e⟩:=an q bf;exact⟨i,g _ _ e d u⟩
  ·refine (cP.mono (λJ a q=>?_) al).app (.cons (y.fr (λ_ z=>z) (λq i e _ k m=>g _ _ e k m) r) .nil);exact q.fr t (λq i e _ k m=>g _ _ (j _ _ e) k m) (λq o e=>r _ _ (j _ _ e))
  ·exact g _ _ (j _ _ e) (λz=>n (by rw[z];exact W.ss)) (λz=>n (by rw[z];exact W.so))
def qV(n:Nat)(a:Int):Prop:=0<=a/\a<(n:Nat)
def qV.get{n:Nat}{a:Int}(h:qV n a):∃ j:Nat,a=j/\j<n:=by
 let⟨b,c⟩:=h;exact⟨a.toNat,by lia,by lia⟩
def ov(a:lJ)(b:Wp):Prop:=↑a<=1000/\↑b<=1000
class inductive Dj(C:Addr)
 | mk (b:Y1) (x d c e:Addr) (f:lJ) (a:Wp) (s:Int) (_:vs=[↥x,.int s]) (_:Sh C b H x d c e f a) (_:qV ↑a s) (_:Q .gc H)
class inductive NQ(C:Addr)
 | mk (b:Y1) (x d c e:Addr) (a:lJ) (f:Wp) (m:Int) (_:vs=[↥x,.int m]) (_:Sh C b H x d c e a f) (_:qV ↑a m) (_:Q .gc H)
def UQ(H a:Hp)(q:Addr)(c:List (List aX)):Prop:=H q=none/\∃ b:List Addr,a q=⇑(.lst (b.map V.ref))/\cP (λr d=>H r=none/\r≠q/\ck a ↥r d) b c
class inductive GW(C:Addr)
 | mk (f:Y1) (x g h i:Addr) (a:lJ) (c:Wp) (m:Int) (_:vs=[↥x,.int m]) (_:Sh C f H x g h i a c) (_:ov a c) (_:qV ↑a m) (_:(∀ (d:Nat) (e:List (List aX)),m=d->a[d]?=⇑e->∀ (q:Addr) (b:Hp),UQ H b q e->aJ H b->Q ↥q b))
class inductive QU(C:Addr)
 | mk (e:Y1) (x f g h:Addr) (a:lJ) (c:Wp) (_:vs=[↥x]) (_:Sh C e H x f g h a c) (_:ov a c) (_:(∀ (d:List (List aX)),a.getLast?=⇑d->∀ (q:Addr) (b:Hp),UQ H b q d->aJ H b->Q ↥q b))
theorem dJ:‹(2,46,["c","g"],(Dj cH))›:=λD=>by
 specialize eZ ["c","g"] D.Gu.F;let⟨S,x,d,b,c,e,f,j,rfl,W,a,g⟩:=h;exists _,#v[bN (iY (qE gJ kJ az (pv 1) (fD (pv 0) D.dF D.Yt (tN D) hr bH))) #v[iH] bu]
 rfl'
 exists Y,Z,Y;rw[decide_eq_true a.1];refine dO (λ_=>?_) (λi=>absurd rfl i);exists Y,x,d,Y,W.hx,1,S,x,d,b,c,e,f,1,W,Z,Y;rw[decide_eq_true a.2];exact fT g
theorem qm:‹(2,47,["c","P"],(NQ cH))›:=λD=>by
 specialize eZ ["c","P"] D.ma.F;let⟨S,x,d,b,c,l,m,e,rfl,W,a,f⟩:=h;let⟨g,i,j⟩:=W.hs;exists _,#v[bN (iY (qE gJ gJ az (pv 1) (fD (pv 0) D.dF D.Qj (mw D) hr bH))) #v[iH] bu]
 rfl'
 exists Y,Z,Y;rw[decide_eq_true a.1];refine dO (λ_=>?_) (λk=>absurd rfl k);exists Y,x,d,Y,W.hx,1,x,d,b,c,Y,W.hx,i,Z,Y;rw[decide_eq_true (show e<=(↑(g.map V.ref):Int)-1 by rw[b8,j.len];exact Int.le_sub_one_of_lt a.2)];exact fT f
def Sh.at'{C:Addr}{c:Y1}{H:Hp}{x h a:Addr}{d:lJ}{j:Wp}(k:Sh C c H x h a l d j){b:WF}(m:H a=⇑(.lst (b.map V.ref))){i:Nat}{e:List (List aX)}(n:d[i]?=⇑e):∃ f,b[i]?=⇑f/\JX c H a l f e:=by
 let⟨o,g,p⟩:=k.hs
 let q:b=o:=by
  rw[m]at g;exact AH (HO.lst.inj (qz g))
 subst q;exact p.get' n
def Sh.v5{C:Addr}{d:Y1}{H:Hp}{x e f:Addr}{a:lJ}{c:Wp}(h:Sh C d H x e f i a c):∃ last,a.getLast?=⇑last/\a[↑a-1]?=⇑last/\↑c=↑last:=by
 let⟨last,b,g⟩:=h.Sw.Dh;refine⟨last,b,?_,g⟩;rw[List.getLast?_eq_getElem?]at b;exact b
theorem uD:‹(3,48,["c","P"],(GW cH))›:=λD=>by
 specialize eZ ["c","P"] D.mc.F;let⟨S,x,o,p,M,k,N,O,rfl,W,R,y,T⟩:=h;let⟨as,B,al⟩:=id W.hs;refine⟨_,#v[aT (cL (pv 0) D.dF D.ma (qm D) hr bH #[1]),aK (gO (N:=["l"]) (jJ (c:=b9 j8) (f:=["c","P"]) (d:=[none]) rfl rfl rfl nofun nofun rfl nofun rfl nofun) rfl (cC (aR bK (cG (pv 0) rfl) (pv 1))) (λ_ _ _ _ _ _=>(bW 0)) (λ_ _ _ _ _ _=>gU) (λ_ _ _ _ _ _=>(fP Jv rfl D.T.jv tR #[0])))],?_⟩
 rfl'
 exists Y,x,o,Y,W.hx,1,Y,S,x,o,p,M,k,N,O,1,W,y;let⟨i,rfl,M⟩:=y.get;let l:k[i]?=⇑k[i]:=nT M;generalize k[i]=s at l;let⟨t,k,_,_,_,U,C,F⟩:=W.at' B l;let X:=F.len;let lo:=W.Sw.less i s l;let y:=R.2;refine⟨Y,x,cH,o,_,↥p,1,W.hx,D.dF.cl,D.l9,1,Y,p,E,↥t,V,bJ.of B,dh (by rw[kB,k];rfl),?_⟩;refine⟨t,1,⟨_,bJ.of C⟩,λc u=>gv (K:=bV) (h:=t) (a:=U.map V.ref) (λk m a=>∃ (v:Option V) (b:WF),m=[v]/\a c=⇑(.lst (b.map V.ref))/\aJ H a/\cP (λr w=>H r=none/\r≠c/\ck a ↥r w) b (s.take k)) ⟨none,[],1,af,ao u _,by rw[List.take_zero];exact .nil⟩ (λk m a _ ⟨Q,_,s0,_⟩=>bJ.of (s0 _ _ C)) ?_ ?_⟩
 ·rintro k ag m a G ⟨v,b,rfl,f,d,g⟩;rw[kB]at G;let⟨ri,ab,rfl⟩:=Option.map_eq_some_iff.mp G;let⟨w,ae,k⟩:=F.get ab;let⟨o,vs,ec,hc,it⟩:=k.at';cases ec;refine⟨Y,ri,Y,.inl (bJ.of (d _ _ hc)),λz j=>⟨_,ao j _ _ _ f,?_,_,b++[z],1,?_,?_,?_⟩⟩
  ·have:=g.len;rw[gI]at this;rw[b8];exact aQ ∅
  ·rw[af,gm];rfl
  ·intro q k e;rw[aN (aB e u)];exact ao j _ _ _ (d _ _ e)
  ·let I:z≠c:=(aB f j).symm
   let J:∀ q k,a q=⇑k->q≠c->(aO (aO a z (.lst vs)) c (.lst (b.map V.ref++[↥z]))) q=⇑k:=λq k e k=>by
    rw[aN k];exact ao j _ _ _ e
   let L:∀ q n,a q=⇑(.tup n)->(aO (aO a z (.lst vs)) c (.lst (b.map V.ref++[↥z]))) q=⇑(.tup n):=λq n e=>J _ _ e (cS e f (by intro bf;cases bf));rw[take_snoc ae];refine cP.snoc (g.mono λr w ⟨o,k,p⟩=>⟨o,k,p.fr (λn e=>J _ _ e k) L⟩) ⟨aU d j,I,z,vs,1,?_,it.mono λk i ⟨q,e,j⟩=>⟨q,e,L _ _ (d _ _ j)⟩⟩;rw[aN I];exact af
 ·rintro m a ⟨v,b,rfl,f,d,g⟩;rw[b8,X,gQ]at g;exact T i s rfl l c a ⟨u,b,f,g⟩ d
theorem gr:‹(4,49,["c"],(QU cH))›:=λD=>by
 specialize eZ ["c"] D.Ea.F;let⟨S,x,d,b,c,a,i,rfl,W,e,k⟩:=h;let⟨j,l,m⟩:=id W.hs;let⟨n,o,f,_⟩:=W.v5;let p:↑a-1<↑a:=(List.getElem?_eq_some_iff.mp f).1;let p:=e.1;let p:((↑(j.map V.ref):Nat):Int)-1=((↑a-1:Nat):Int):=by rw[b8,m.len];lia
 exists _,#v[aK (cL (pv 0) D.dF D.mc (uD D) hr bH #[fD (pv 0) D.dF D.Qj (mw D) hr bH])]
 rfl'
 exists Y,x,d,Y,W.hx,1,Y,x,d,Y,W.hx,1,x,d,b,c,Y,W.hx,l;rw[p];refine⟨S,x,d,b,c,a,i,Y,W,e,⟨by lia,by lia⟩,λb c d g q r s t=>?_⟩;have:b=↑a-1:=by lia
 subst this;rw[f]at g;cases g;exact k n o q r s t
class inductive UR(C:Addr)
 | mk (x d:Addr) (_:vs=[↥x]) (_:H x=⇑(.ins C d [])) (_: ∀ (b:List (Str × V)) (a:Hp),a x=⇑(.ins C d b)->cD x H a->Q .gc a)
theorem QV{x z:Addr}{H:Hp}{o a:HO}(b:H z=none):cD x H (aO (aO H z o) x a):=λc d e n=>by
 rw[aN n];exact ao b o c d e
theorem xj:‹(1,51,["c"],(UR yv))›:=λD=>by
 specialize eZ ["c"] D.md.F;let⟨x,d,rfl,c,k⟩:=h;exists _,#v[iJ (pv 0) az rfl,iJ (pv 0) kT rfl]
 rfl'
 refine⟨Y,x,yv,d,Y,c,D.C3.cl,D.DM,by decide,?_⟩;let a:cD x H (aO H x (.ins yv d (_L2.fk "given" (.int 0) []))):=aI x _ _;let b:(aO H x (.ins yv d (_L2.fk "given" (.int 0) []))) x=⇑(.ins yv d (_L2.fk "given" (.int 0) [])):=af;generalize aO H x (.ins yv d (_L2.fk "given" (.int 0) []))=c at a b;intro z c;exact⟨Y,x,yv,d,Y,ao c _ _ _ b,D.C3.cl,D.DN,(by show 1<1000;decide),k _ _ af (a.trans (QV c))⟩
def jh(a:Row)(h:Int):Int:=((a.filter λp=>decide (p.1=h)).map (·.2)).sum
def QW(a:Row):List (eG × V):=a.map λp=>(Sum.inl p.1,V.int p.2)
structure nO(ps fc:Row):Prop where
 nd:(ps.map (·.1)).Nodup
 val:∀ p∈ps,p.2=jh fc p.1
 key:∀ h,h∈ps.map (·.1)↔h∈fc.map (·.1)
 sum:(ps.map (·.2)).sum=(fc.map (·.2)).sum
 len:↑ps<=↑fc
def AK(a:Row)(h m g:Int):jh (a++[(h,m)]) g=jh a g+if h=g then m else 0:=by
 unfold jh;rw[List.filter_append,gm,List.sum_append];by_cases e:h=g
 ·rw[if_pos e];simp[e]
 ·rw[if_neg e];simp[e]
def uE{a:Row}{h:Int}(n:h∉a.map (·.1)):jh a h=0:=by
 unfold jh;rw[List.filter_eq_nil_iff.mpr λp b=>?_]
 ·rfl
 ·intro z;exact n (List.mem_map.mpr ⟨p,b,of_decide_eq_true z⟩)
theorem Eo:∀ (a:Row) (h:Int),(cE (QW a) (Sum.inl h)=none/\h∉a.map (·.1))\/∃ v,(h,v)∈a/\cE (QW a) (Sum.inl h)=⇑(V.int v)
 | [],h=>.inl ⟨1,by simp⟩
 | p::r,h=>by
  by_cases e:p.1=h
  ·exact .inr ⟨p.2,by rw[← e];simp,iB (p:=(Sum.inl p.1,V.int p.2)) (by rw[e])⟩
  ·let d:¬ (Sum.inl p.1:eG)=Sum.inl h:=λz=>e (Sum.inl.inj z);rcases Eo r h with ⟨b,c⟩|⟨v,b,c⟩
   ·refine .inl ⟨(gY (p:=(Sum.inl p.1,V.int p.2)) d).trans b,?_⟩;rw[iu,List.mem_cons,not_or];exact⟨λz=>e z.symm,c⟩
   ·exact .inr ⟨v,j0 _ b,(gY (p:=(Sum.inl p.1,V.int p.2)) d).trans c⟩
def nO.get{a d:Row}(h:nO a d)(g:Int):((cE (QW a) (Sum.inl g)).getD (.int 0))=V.int (jh d g):=by
 rcases Eo a g with ⟨b,c⟩|⟨v,b,c⟩
 ·rw[b,uE λz=>c ((h.key g).mpr z)];rfl
 ·rw[c,← h.val _ b];rfl
theorem GX(h m:Int):∀ a:Row,(a.map (·.1)).Nodup->h∈a.map (·.1)->((a.map λp=>if p.1=h then (p.1,p.2+m) else p).map (·.2)).sum=(a.map (·.2)).sum+m
 | [],_,z=>by simp at z
 | p::r,nd,z=>by
  rw[iu]at nd z;let⟨b,c⟩:=List.nodup_cons.mp nd;rw[iu,iu,iu,List.sum_cons,List.sum_cons];by_cases e:p.1=h
  ·rw[if_pos e]
   have:(r.map λp=>if p.1=h then (p.1,p.2+m) else p)=r:=by
    let z:∀ q∈r,(λp:Int × Int=>if p.1=h then (p.1,p.2+m) else p) q=id q:=λq d=>if_neg (λw=>b (List.mem_map.mpr ⟨q,d,w.trans e.symm⟩));rw[uN z,List.map_id]
   rw[this];show p.2+m+_=_;lia
  ·rw[if_neg e,GX h m r c ((List.mem_cons.mp z).resolve_left λw=>e w.symm)];lia
def nO.g0{a b:Row}(P:nO a b)(h m:Int):∃ i,dX (QW a) (Sum.inl h) (V.int (jh b h+m))=QW i/\nO i (b++[(h,m)]):=by
 let j:∀ g,g∈(b++[(h,m)]).map (·.1)↔g=h\/g∈b.map (·.1):=λg=>by
  rw[gm,List.mem_append,or_comm];simp
 let k:((b++[(h,m)]).map (·.2)).sum=(b.map (·.2)).sum+m:=by rw[gm,List.sum_append];simp
 rcases Eo a h with ⟨f,c⟩|⟨v,f,c⟩
 ·exists a++[(h,m)],?_,?_,λp d=>?_,λg=>?_,?_
  ·rw[vt _ f,uE λz=>c ((P.key h).mpr z)];unfold QW;rw[gm];simp
  ·rw[gm];exact List.nodup_append.mpr ⟨P.nd,by simp,λx l y n e=>c ((show x=h from e.trans (by simpa using n)) ▸ l)⟩
  ·rw[AK];rcases List.mem_append.mp d with z|z
   ·rw[if_neg (λe=>c (List.mem_map.mpr ⟨p,z,e.symm⟩)),P.val p z];lia
   ·rw[List.mem_singleton.mp z,if_pos rfl,uE λz=>c ((P.key h).mpr z)];simp
  ·rw[j,gm,List.mem_append,P.key,or_comm];simp
  ·rw[k,gm,List.sum_append,P.sum];simp
  ·rw[cY,cY];have:=P.len;lia
 ·let l:h∈a.map (·.1):=List.mem_map.mpr ⟨_,f,1⟩
  let mk:(a.map λp=>if p.1=h then (p.1,p.2+m) else p).map (·.1)=a.map (·.1):=by
   rw[nE];refine uN λp _=>?_;show (if p.1=h then (p.1,p.2+m) else p).1=p.1
   split <;> rfl
  exists a.map λp=>if p.1=h then (p.1,p.2+m) else p,?_,?_,λp d=>?_,λg=>?_,?_
  ·unfold dX;rw[if_pos (by rw[kO,c];rfl)];unfold QW;rw[nE,nE];refine uN λp d=>?_;show (if (Sum.inl p.1:eG)=Sum.inl h then (Sum.inl p.1,V.int (jh b h+m)) else (Sum.inl p.1,V.int p.2))=_;by_cases e:p.1=h
   ·rw[if_pos (by rw[e])];show _=(λp:Int × Int=>((Sum.inl p.1:eG),V.int p.2)) (if p.1=h then (p.1,p.2+m) else p);rw[if_pos e,P.val p d,e]
   ·rw[if_neg (λz=>e (Sum.inl.inj z))];show _=(λp:Int × Int=>((Sum.inl p.1:eG),V.int p.2)) (if p.1=h then (p.1,p.2+m) else p);rw[if_neg e]
  ·rw[mk];exact P.nd
  ·let⟨q,n,rfl⟩:=List.mem_map.mp d;rw[AK];by_cases e:q.1=h
   ·rw[if_pos e];show q.2+m=jh b q.1+if h=q.1 then m else 0;rw[if_pos e.symm,P.val q n]
   ·rw[if_neg e,if_neg (λz=>e z.symm),P.val q n];lia
  ·rw[j,mk,P.key];exact⟨.inr,λz=>z.elim (λe=>by rw[e];exact (P.key h).mp l) id⟩
  ·rw[k,GX h m a P.nd l,P.sum]
  ·rw[b8,cY];have:=P.len;lia
theorem nO.nil:nO [] []:=⟨by simp,(λp a=>by cases a),(λh=>by simp),1,fF _⟩
def Du(C:Addr)(H:Hp)(x d t:Addr)(a:Row):Prop:=H x=⇑(.ins C d [("sums",↥t)])/\H t=⇑(.dK (QW a))
class inductive US(C:Addr)
 | mk (x d:Addr) (_:vs=[↥x]) (_:H x=⇑(.ins C d [])) (_: ∀ (t:Addr) (a:Hp),Du C a x d t []->cD x H a->H t=none->Q .gc a)
class inductive v6(C:Addr)
 | mk (x d t:Addr) (a b:Row) (h:Int) (_:vs=[↥x,.int h]) (_:Du C H x d t a) (_:nO a b) (_:Q (.int (jh b h)) H)
class inductive v'(C:Addr)
 | mk (x d t:Addr) (c a:Row) (h m:Int) (_:vs=[↥x,.int h,.int m]) (_:Du C H x d t c) (_:nO c a) (_:↑a<=1000) (_ :
 ∀ (e:Row) (b:Hp),Du C b x d t e->nO e (a++[(h,m)])->cD t H b->Q .gc b)
class inductive QX(C:Addr)
 | mk (x d t:Addr) (a b:Row) (_:vs=[↥x]) (_:Du C H x d t a) (_:nO a b) (_: ∀ c:Hp,aJ H c->Q (.int (b.map (·.2)).sum) c)
theorem xm:‹(1,52,["c"],(US jW))›:=λD=>by
 specialize eZ ["c"] D.me.F;let⟨x,d,rfl,b,k⟩:=h;exists _,#v[iJ (pv 0) kT rfl]
 rfl'
 intro t a;let c:t≠x:=(aB b a).symm;refine⟨Y,x,jW,d,Y,ao a _ _ _ b,D.pT.cl,D.zO,by decide,?_⟩;exact k t _ ⟨af,by rw[aN c,af];rfl⟩ (λb o e n=>by rw[aN n];exact ao a _ b o e) a
theorem yi:‹(1,53,["c","q"],(v6 jW))›:=λD=>by
 specialize eZ ["c","q"] D.Yu.F;let⟨x,d,t,e,fc,g,rfl,⟨b,a⟩,c,k⟩:=h;let e:=gM hr;exists _,#v[aK (Af e (cG (pv 0) rfl) (pv 1) az ⟨V,V⟩)]
 rfl'
 exists Y,x,jW,d,_,↥t,1,b,D.pT.cl,D.zO,1,t,1,.inl ⟨_,.inl a⟩,Y,_,gu.k (k:=Sum.inl g) a;rw[c.get g];exact k
theorem GY:‹(2,54,["c","q","many"],(v' jW))›:=λD=>by
 specialize eZ ["c","q","many"] D.mf.F;let⟨x,d,t,e,fc,g,m,rfl,⟨a,b⟩,c,f,k⟩:=h;let f:=gM hr;exists _,#v[nK f (cG (pv 0) rfl) (pv 1) (bG dY (cL (pv 0) D.pT D.Yu (yi D) hr bH #[1]) (pv 2)) rfl]
 rfl'
 let⟨f,i,j⟩:=c.g0 g m;let l:=c.len;exists Y,x,d,Y,a,1,Y,x,d,t,e,fc,g,1,⟨a,b⟩,c,Y,Z;refine⟨Y,x,jW,d,_,↥t,1,a,D.pT.cl,D.zO,1,Y,t,Y,wD.k (k:=Sum.inl g) b (by unfold QW;rw[b8];exact aQ ∅),?_⟩;show Q .gc _;rw[i];let c:x≠t:=cS a b;exact k f _ ⟨by rw[aN c];exact a,af⟩ j (aI t _ _)
theorem BE:‹(1,55,["c"],(QX jW))›:=λD=>by
 specialize eZ ["c"] D.mi.F;let⟨x,d,t,b,fc,rfl,⟨e,a⟩,f,k⟩:=h;exists _,#v[aK (cA (Nd rfl) rfl D.T.Qg PyProof.Rows.boot_sum #[DL PySem.F.plainAttrs_dict PySem.F.slot_dict_values PySem.F.type_dict_values JF (cG (pv 0) rfl)])]
 rfl'
 refine⟨Y,x,jW,d,_,↥t,1,e,D.pT.cl,D.zO,1,.inr (.inr (.inl ⟨1,.inl ⟨_,a⟩⟩)),t,Y,1,a,λv c=>?_⟩;refine⟨v,t,QW b,b.map (·.2),1,af,ao c _ _ _ a,by unfold QW;rw[nE,nE];rfl,?_⟩;rw[f.sum];exact k _ (ao c _)
structure Kd where
 C:Addr
 t:Addr
 fc:Row
def QY(a:fY):List V:=a.map λp=>rY p.2
def IZ(a:fY):List V:=a.map λp=>V.int p.1
def nP(h:Int)(a:List Nat):fY:=a.map λc=>(h,c)
theorem mz(h:Int)(a:List Nat):↑(nP h a)=↑a:=b8 ..
def UT(a:fY)(h:Int)(b:List Nat):QY (a++nP h b)=QY a++b.map rY:=by
 unfold QY nP;rw[gm,nE];rfl
theorem Ep(v:V):∀ n:Nat,(List.replicate n [v]).flatten=List.replicate n v
 | 0=>rfl
 | n+1=>by rw[List.replicate_succ,List.flatten_cons,Ep v n,List.replicate_succ];rfl
def UU(a:fY)(h:Int)(b:List Nat):IZ (a++nP h b)=IZ a++(List.replicate ↑b [V.int h]).flatten:=by
 rw[Ep];unfold IZ nP;rw[gm,nE];congr 1;exact List.map_eq_replicate_iff.mpr λc _=>rfl
def lu(h:Int):Nat->fY->List Int
 | _,[]=>[]
 | i,p::r=>if p.1=h then (i:Int)::lu h (i+1) r else lu h (i+1) r
theorem ny(h:Int):∀ (a b:fY) (i:Nat),lu h i (a++b)=lu h i a++lu h (i+↑a) b
 | [],b,i=>rfl
 | p::a,b,i=>by
  rw[List.cons_append,lu,lu,kH,ny h a b (i+1),show i+1+↑a=i+(↑a+1) by lia]
  split <;> rfl
theorem xo(h:Int):∀ (a:List Nat) (i:Nat),lu h i (nP h a)=run (i:Int) ↑a
 | [],i=>rfl
 | c::a,i=>by
  show lu h i ((h,c)::nP h a)=_;rw[lu,if_pos rfl,xo h a (i+1),kH,run,show ((i+1:Nat):Int)=(i:Int)+1 by lia]
theorem nA{h g:Int}(n:g≠h):∀ (a:List Nat) (i:Nat),lu h i (nP g a)=[]
 | [],i=>rfl
 | c::a,i=>by
  show lu h i ((g,c)::nP g a)=_;rw[lu,if_neg n,nA n a (i+1)]
def AL(a b:Int)(k:Nat)(e:b=a+k):bg [(a,b)]=run a k:=by
 show gG (a,b)++[]=_;rw[ir];show run a (b-a).toNat=_;rw[show (b-a).toNat=k by lia]
structure Pw(S:Y1)(H:Hp)(s o:Addr)(n:Nat)(kvs:List (eG × V))(aC:fY):Prop where
 got:∀ h v,cE kvs (Sum.inl h)=⇑v->∃ (l:Addr) (row:Row),v=↥l/\S l/\l≠s/\l≠o/\bU H l row/\(∀ p∈row,p.1<=p.2)/\bg row=lu h 0 aC/\↑row<=n
 gc:∀ h,cE kvs (Sum.inl h)=none->lu h 0 aC=[]
 one:∀ h g v,cE kvs (Sum.inl h)=⇑v->cE kvs (Sum.inl g)=⇑v->h=g
 len:↑kvs<=n
structure We(C:Addr)(S:Y1)(H:Hp)(x d s o p:Addr)(n:Nat)(aC:fY):Prop where
 sx:S x
 ss:S s
 so:S o
 sp:S p
 al:∀ a,S a->∃ ob,H a=⇑ob
 hx:H x=⇑(.ins C d [("K",↥s),("O",↥o),("Y",↥p)])
 hs:H s=⇑(.lst (QY aC))
 ho:H o=⇑(.lst (IZ aC))
 ne:s≠o
 dk:∃ kvs,H p=⇑(.dK kvs)/\Pw S H s o n kvs aC
def bU.two{H b:Hp}{r:Addr}{c:Row}(h:bU H r c)(k:∀ a,H r=⇑(.lst a)->b r=⇑(.lst a))(t:∀ d a,H d=⇑(.tup a)->b d=⇑(.tup a)):bU b r c:=by
 let⟨e,f,g⟩:=h;exact⟨e,k _ f,g.tups t⟩
def We.fr{C:Addr}{d:Y1}{H e:Hp}{x i s p:Addr}{n:Nat}{j:fY}(h:We C d H x i s o p n j)(k:∀ a b,H a=⇑b->d a->e a=⇑b)(t:∀ a f,H a=⇑(.tup f)->e a=⇑(.tup f)):We C d e x i s o p n j:=by
 let⟨sx,ss,so,sp,al,hx,hs,ho,ne,g,l,c⟩:=h;refine⟨sx,ss,so,sp,λa z=>?_,k _ _ hx sx,k _ _ hs ss,k _ _ ho so,ne,g,k _ _ l sp,λh v g=>?_,c.gc,c.one,c.len⟩
 ·let⟨b,g⟩:=al a z;exact⟨b,k _ _ g z⟩
 ·let⟨m,q,r,l,u,w,y,z⟩:=c.got h v g;exact⟨m,q,r,l,u,w,y.two (λf q=>k _ _ q l) t,z⟩
theorem We.same{C:Addr}{a:Y1}{H b:Hp}{x d s p:Addr}{n:Nat}{c:fY}(h:We C a H x d s o p n c)(k:aJ H b):We C a b x d s o p n c:=h.fr (λf g e _=>k f g e) (λf f e=>k _ _ e)
theorem L0(a:fY):↑(QY a)=↑a:=b8 ..
theorem UW(a:fY):↑(IZ a)=↑a:=b8 ..
def QZ{H:Hp}{a:Addr}{b:HO}(h:H a=⇑b):aO H a b=H:=by
 funext c;by_cases e:c=a
 ·rw[e,af,h]
 ·rw[aN e]
class inductive UX(C:Addr)
 | mk (x d:Addr) (_:vs=[↥x]) (_:H x=⇑(.ins C d [])) (_: ∀ (s o p:Addr) (b:Hp),We C (λa=>a=x\/a=s\/a=o\/a=p) b x d s o p 0 []->cD x H b->H s=none->H o=none->H p=none->Q .gc b)
class inductive UY(C:Addr)
 | mk (x d s o p:Addr) (a:fY) (_:vs=[↥x]) (_:H x=⇑(.ins C d [("K",↥s),("O",↥o),("Y",↥p)])) (_:H s=⇑(.lst (QY a))) (_:Q (.int (↑a:Nat)) H)
class inductive YZ(C:Addr)
 | mk (e:Y1) (x f s o p:Addr) (n:Nat) (b:fY) (h:Int) (d:List Nat) (_:vs=[↥x,.int h,.str (gi d)]) (_:We C e H x f s o p n b) (_:↑b+↑d<=100000) (_:n<=1000) (_ :
 ∀ (g:Y1) (q:Addr) (c:Hp),We C g c x f s o p (n+1) (b++nP h d)->c q=⇑(.tup [.int (↑b:Nat),.int (↑(b++nP h d):Nat)])->(∀ a,g a->e a\/H a=none)->(∀ a i,H a=⇑i->¬ e a->c a=⇑i)->(∀ a j,H a=⇑(.tup j)->c a=⇑(.tup j))->Q ↥q c)
theorem xq:‹(1,56,["c"],(UX cT))›:=λD=>by
 specialize eZ ["c"] D.mm.F;let⟨x,d,rfl,t,B⟩:=h;exists _,#v[iJ (pv 0) (bM ah) rfl,iJ (pv 0) (bM ah) rfl,iJ (pv 0) kT rfl]
 rfl'
 refine⟨iz,λs0 r=>?_⟩;let b:aJ H (aO H s0 (.lst [])):=ao r _;let u:(aO H s0 (.lst [])) s0=⇑(.lst []):=af;generalize aO H s0 (.lst [])=i at b u;refine⟨Y,x,cT,d,Y,b _ _ t,D.iy.cl,D.uc,by decide,?_⟩;let c:cD x i (aO i x (.ins cT d (_L2.fk "K" ↥s0 []))):=aI x _ _;let p:(aO i x (.ins cT d (_L2.fk "K" ↥s0 []))) x=⇑(.ins cT d [("K",↥s0)]):=af;generalize aO i x (.ins cT d (_L2.fk "K" ↥s0 []))=j at c p;let k:s0≠x:=(aB t r).symm;let v:=c _ _ u k;refine⟨iz,λo l=>?_⟩;let f:aJ j (aO j o (.lst [])):=ao l _;let w:(aO j o (.lst [])) o=⇑(.lst []):=af;generalize aO j o (.lst [])=m at f w;refine⟨Y,x,cT,d,Y,f _ _ p,D.iy.cl,D.rD,(by show 1<1000;decide),?_⟩;let g:cD x m (aO m x (.ins cT d (_L2.fk "O" ↥o [("K",↥s0)]))):=aI x _ _;let s:(aO m x (.ins cT d (_L2.fk "O" ↥o [("K",↥s0)]))) x=⇑(.ins cT d [("K",↥s0),("O",↥o)]):=af;generalize aO m x (.ins cT d (_L2.fk "O" ↥o [("K",↥s0)]))=i at g s;let n:o≠x:=(aB p l).symm;let y:=g _ _ w n;let z:=g _ _ (f _ _ v) k;intro p a;let q:p≠x:=(aB s a).symm;refine⟨Y,x,cT,d,Y,ao a _ _ _ s,D.iy.cl,D.mE,(by show 2<1000;decide),?_⟩
 let C:cD x H (aO (aO i p (.dK [])) x (.ins cT d (_L2.fk "Y" ↥p [("K",↥s0),("O",↥o)]))):=λF i e d=>by
  rw[aN d];exact ao a _ _ _ (g _ _ (f _ _ (c _ _ (b _ _ e) d)) d)
 refine B s0 o p _ ⟨.inl rfl,.inr (.inl rfl),.inr (.inr (.inl rfl)),.inr (.inr (.inr rfl)),λF G=>?_,af,?_,?_,aB v l,[],?_,?_⟩ C r ?_ ?_
 ·rcases G with rfl|rfl|rfl|rfl
  ·exact⟨_,af⟩
  ·exact⟨_,by rw[aN k];exact ao a _ _ _ z⟩
  ·exact⟨_,by rw[aN n];exact ao a _ _ _ y⟩
  ·exact⟨_,by rw[aN q];exact af⟩
 ·rw[aN k];exact ao a _ _ _ z
 ·rw[aN n];exact ao a _ _ _ y
 ·rw[aN q];exact af
 ·exact⟨λh I e=>(by cases e),λh e=>rfl,λh d I e=>(by cases e),fF _⟩
 ·exact aU b (gW c n l)
 ·exact aU b (gW c q (aU f (gW g q a)))
theorem jT:‹(1,57,["c"],(UY cT))›:=λD=>by
 specialize eZ ["c"] D.Nk.F;let⟨x,d,s0,o,p,c,rfl,a,b,k⟩:=h;exists _,#v[aK (fR D.T.fE (cG (pv 0) rfl))]
 rfl'
 exists Y,x,cT,d,_,↥s0,1,a,D.iy.cl,D.uc,1,s0,Y,.inl (bJ.of b);rw[L0];exact k
theorem Er:‹(2,58,["c","q","text"],(YZ cT))›:=λD=>by
 specialize eZ ["c","q","text","i","stretch"] D.mn.F;let⟨ag,x,r,s0,o,p,aA,b,h,c,rfl,W,aH,nn,ak⟩:=h;let hu:=gM hr;exists _,#v[aY 3 (fD (pv 0) D.iy D.Nk (jT D) hr bH),wm (pv 0) (fP (Br rfl) rfl D.T.jv tR #[2]) Jw,wm (pv 0) (bG O5 (bM #[1]) (cA uS rfl D.T.fE PySem.boot_len #[2])) Jw,aY 4 (c9 #[3,fD (pv 0) D.iy D.Nk (jT D) hr bH]),aT (dZ oS jE jF bX (Qa (cG (pv 0) rfl) (pv 1) (bM ah) ⟨V,V⟩) #[4]),aK (pv 4)]
 rfl'
 exists Y,x,r,Y,W.hx,1,x,r,s0,o,p,b,1,W.hx,W.hs;let⟨sx,R,S,sp,al,F,T,U,ne,B,G,s⟩:=id W;let am:x≠s0:=cS F T;let av:x≠o:=cS F U;let aw:x≠p:=cS F G;let an:p≠s0:=cS G T;let ap:p≠o:=cS G U;refine⟨Y,x,cT,r,_,↥s0,1,F,D.iy.cl,D.uc,1,Y,c,1,gV (aQ ∅),λX ht=>?_⟩;let a1:aJ H (aO H X (.lst (c.map rY))):=ao ht _;let b1:(aO H X (.lst (c.map rY))) X=⇑(.lst (c.map rY)):=af;generalize aO H X (.lst (c.map rY))=H1 at a1 b1;refine⟨s0,X,Z,a1 _ _ T,b1,(by rw[L0,b8];exact gV (aQ ∅)),?_⟩;rw[← UT b h c];let k2:cD s0 H1 (aO H1 s0 (.lst (QY (b++nP h c)))):=aI s0 _ _;let s2:(aO H1 s0 (.lst (QY (b++nP h c)))) s0=⇑(.lst (QY (b++nP h c))):=af;generalize aO H1 s0 (.lst (QY (b++nP h c)))=I at k2 s2;let aq:cD s0 H I:=λa d e m=>k2 _ _ (a1 _ _ e) m;have X:=aq _ _ F am;refine⟨r,_,X,(by show 3<1000;decide),?_⟩;have J:aO I x (.ins cT r (_L2.fk "K" ↥s0 ([("K",↥s0),("O",↥o),("Y",↥p)]:List (Str × V))))=I:=QZ X;rw[J];refine⟨Y,x,cT,r,_,↥o,1,X,D.iy.cl,D.rD,1,Y,mh,λt2 X=>?_⟩;have a3:aJ I (aO I t2 (.lst [.int h])):=ao X _;have b3:(aO I t2 (.lst [.int h])) t2=⇑(.lst [.int h]):=af;generalize aO I t2 (.lst [.int h])=H3 at a3 b3;refine⟨Y,gi c,1,(by rw[pD];exact gV (aQ ∅)),?_⟩;rw[pD];refine⟨t2,Z,b3,by lia,by lia,(by simp only[iA];exact gV (aQ ∅)),λt3 I=>?_⟩;rw[Int.toNat_natCast];have a4:aJ H3 (aO H3 t3 (.lst (List.replicate ↑c [V.int h]).flatten)):=ao I _;have b4:(aO H3 t3 (.lst (List.replicate ↑c [V.int h]).flatten)) t3=⇑(.lst (List.replicate ↑c [V.int h]).flatten):=af;generalize aO H3 t3 (.lst (List.replicate ↑c [V.int h]).flatten)=H4 at a4 b4;have WJ:cD s0 H H4:=λa d e m=>a4 _ _ (a3 _ _ (aq _ _ e m));refine⟨o,t3,Z,WJ _ _ U ne.symm,b4,(by rw[UW,Ep,yq];exact gV (aQ ∅)),?_⟩;rw[← UU b h c];have k5:cD o H4 (aO H4 o (.lst (IZ (b++nP h c)))):=aI o _ _;have o5:(aO H4 o (.lst (IZ (b++nP h c)))) o=⇑(.lst (IZ (b++nP h c))):=af;generalize aO H4 o (.lst (IZ (b++nP h c)))=C at k5 o5;have ab:∀ a d,H a=⇑d->a≠s0->a≠o->C a=⇑d:=λa d e m m2=>k5 _ _ (WJ _ _ e m) m2;have L:=ab _ _ F am av;have s5:=k5 _ _ (a4 _ _ (a3 _ _ s2)) ne;refine⟨r,_,L,(by show 3<1000;decide),?_⟩;have e5:aO C x (.ins cT r (_L2.fk "O" ↥o ([("K",↥s0),("O",↥o),("Y",↥p)]:List (Str × V))))=C:=QZ L;rw[e5]
 let SQ:∀ q,C q=none->H q=none:=λq w=>by
  cases e:H q with
  | none=>rfl
  | some d =>
   by_cases i:q=s0
   ·rw[i,s5]at w;cases w
   by_cases k:q=o
   ·rw[k,o5]at w;cases w
   rw[ab _ _ e i k]at w;cases w
 exists Y,Y,x,r,Y,L,1,x,r,s0,o,p,Y,L,s5;refine⟨mj,λq w=>?_⟩;let n:aJ C (aO C q (.tup [.int (↑b:Nat),.int (↑(b++nP h c):Nat)])):=ao w _;let b6:(aO C q (.tup [.int (↑b:Nat),.int (↑(b++nP h c):Nat)])) q=⇑(.tup [.int (↑b:Nat),.int (↑(b++nP h c):Nat)]):=af;generalize aO C q (.tup [.int (↑b:Nat),.int (↑(b++nP h c):Nat)])=M at n b6;let p6:=n _ _ (ab _ _ G an ap);let DQ:∀ q,M q=none->H q=none:=λq w=>SQ q (aU n w);refine⟨Y,x,cT,r,_,↥p,1,n _ _ L,D.iy.cl,D.mE,1,p,1,.inl ⟨_,.inl p6⟩,Y,iz,λz hz=>?_⟩;have t:aJ M (aO M z (.lst [])):=ao hz _;have b7:(aO M z (.lst [])) z=⇑(.lst []):=af;generalize aO M z (.lst [])=u at t b7;have r:=s.len;refine⟨B,Sum.inl h,t _ _ p6,1,aQ ∅,λv O=>?_,λO=>?_⟩
 ·let⟨l,row,rfl,Sl,ls,lo,⟨as,r,pa⟩,ok,ar,rl⟩:=s.got h v O;let ae:∀ a d,H a=⇑d->a≠s0->a≠o->u a=⇑d:=λa d e m m2=>t _ _ (n _ _ (ab _ _ e m m2));have l7:=ae _ _ r ls lo;have ax:x≠l:=cS F r;have ay:p≠l:=cS G r;have r:=pa.len;refine⟨.inl ⟨1,_,bJ.of l7⟩,Y,l,Z,l7,(by rw[b8];exact aQ ∅),?_⟩;have j:cD l u (aO u l (.lst (as.map V.ref++[↥q]))):=aI l _ _;have l8:(aO u l (.lst (as.map V.ref++[↥q]))) l=⇑(.lst (as.map V.ref++[↥q])):=af;generalize aO u l (.lst (as.map V.ref++[↥q]))=N at j l8;have ai:∀ a f,H a=⇑(.tup f)->u a=⇑(.tup f):=λa f e=>ae _ _ e (cS e T) (cS e U);have Y0:∀ a f,u a=⇑(.tup f)->N a=⇑(.tup f):=λa f e=>j _ _ e (cS e l7);have r:=j _ _ (t _ _ (n _ _ s5)) ls.symm;have w:=j _ _ (t _ _ (n _ _ o5)) lo.symm;refine⟨Y,ak ag q N ⟨sx,R,S,sp,λa z=>?_,j _ _ (t _ _ (n _ _ L)) ax,r,w,ne,B,j _ _ (t _ _ p6) ay,λg v e=>?_,λg e=>?_,s.one,by lia⟩ (Y0 _ _ (t _ _ b6)) (λa z=>.inl z) (λa d e m=>?_) (λa f e=>Y0 _ _ (ai _ _ e))⟩
  ·by_cases i:a=s0
   ·rw[i];exact⟨_,r⟩
   by_cases k:a=o
   ·rw[k];exact⟨_,w⟩
   by_cases y:a=l
   ·rw[y];exact⟨_,l8⟩
   let⟨d,e⟩:=al a z;exact⟨d,j _ _ (ae _ _ e i k) y⟩
  ·by_cases i:g=h
   ·subst i;rw[O]at e;cases e;exists l,row++([(((↑b:Nat):Int),((↑(b++nP g c):Nat):Int))]:Row),1,Sl,ls,lo,⟨as++[q],by rw[gm];exact l8,?_⟩,?_,?_
    ·exact bx.append (pa.tups λa f e=>Y0 _ _ (ai _ _ e)) (.cons (b:=(((↑b:Nat):Int),((↑(b++nP g c):Nat):Int))) (Y0 _ _ (t _ _ b6)) .nil)
    ·intro k hr;rcases List.mem_append.mp hr with z|z
     ·exact ok k z
     ·rw[List.mem_singleton.mp z];show ((↑b:Nat):Int)<=(↑(b++nP g c):Nat);rw[cY];lia
    ·rw[cZ,ar,ny,xo,Nat.zero_add];congr 1;refine AL _ _ _ ?_;rw[cY,mz];lia
    ·rw[cY];simp only[iA];lia
   ·let⟨k,wR,y,e2,J,e4,e5,e6,e7,e8⟩:=s.got g v e;subst y;let r:k≠l:=λz=>i (s.one g h _ e (by rw[z];exact O));refine⟨k,wR,1,e2,J,e4,e5.two (λf q=>j _ _ (ae _ _ q J e4) r) (λa f e=>Y0 _ _ (ai _ _ e)),e6,?_,by lia⟩;rw[e7,ny,nA (λz=>i z.symm),ir]
  ·let i:g≠h:=λz=>by rw[z,O]at e;cases e
   rw[ny,s.gc g e,nA (λz=>i z.symm),ir]
  ·let i:a≠s0:=λz=>m (by rw[z];exact R);have k:a≠o:=λz=>m (by rw[z];exact S);have y:a≠l:=λz=>m (by rw[z];exact Sl);exact j _ _ (ae _ _ e i k) y
 ·let fz:H z=none:=DQ z hz;let p7:=t _ _ p6;let j:cD p u (aO u p (.dK (dX B (Sum.inl h) ↥z))):=aI p _ _;let p8:(aO u p (.dK (dX B (Sum.inl h) ↥z))) p=⇑(.dK (dX B (Sum.inl h) ↥z)):=af;generalize aO u p (.dK (dX B (Sum.inl h) ↥z))=N at j p8;let r:=j _ _ b7 (cS b7 p7);refine⟨.inl ⟨1,_,bJ.of r⟩,Y,z,Z,r,(by show 0<sizeLine;decide),?_⟩;let k9:cD z N (aO N z (.lst ([]++[↥q]))):=aI z _ _;let z9:(aO N z (.lst ([]++[↥q]))) z=⇑(.lst ([]++[↥q])):=af;generalize aO N z (.lst ([]++[↥q]))=r at k9 z9;let u:∀ a d,M a=⇑d->a≠p->r a=⇑d:=λa d e m=>k9 _ _ (j _ _ (t _ _ e) m) (aB e hz);have Y3:∀ a d,H a=⇑d->a≠s0->a≠o->a≠p->r a=⇑d:=λa d e m m2 j=>u _ _ (n _ _ (ab _ _ e m m2)) j;have ai:∀ a f,M a=⇑(.tup f)->r a=⇑(.tup f):=λa f e=>u _ _ e (cS e p6);have ar:∀ a f,H a=⇑(.tup f)->r a=⇑(.tup f):=λa f e=>Y3 _ _ e (cS e T) (cS e U) (cS e G);have s9:=u _ _ (n _ _ s5) an.symm;have o9:=u _ _ (n _ _ o5) ap.symm;have p9:=k9 _ _ p8 (cS p7 b7)
  let nz:∀ a,ag a->a≠z:=λa j=>by
   let⟨d,e⟩:=al a j;exact aB e fz
  refine⟨Y,ak (λa=>ag a\/a=z) q r ⟨.inl sx,.inl R,.inl S,.inl sp,λa bf=>?_,u _ _ (n _ _ L) aw,s9,o9,ne,_,p9,λg v e=>?_,λg e=>?_,λg g' v e l=>?_,(by have:=iL B (Sum.inl h:eG) (V.ref z);lia)⟩ (ai _ _ b6) (λa bf=>bf.imp id λae=>by rw[ae];exact fz) (λa d e m=>?_) (λa f e=>ar _ _ e)⟩
  ·rcases bf with bf|bf
   ·by_cases i:a=s0
    ·rw[i];exact⟨_,s9⟩
    by_cases k:a=o
    ·rw[k];exact⟨_,o9⟩
    by_cases y:a=p
    ·rw[y];exact⟨_,p9⟩
    let⟨d,e⟩:=al a bf;exact⟨d,Y3 _ _ e i k y⟩
   ·rw[bf];exact⟨_,z9⟩
  ·rw[kQ]at e;by_cases i:g=h
   ·subst i;rw[if_pos rfl]at e;cases e;exists z,([(((↑b:Nat):Int),((↑(b++nP g c):Nat):Int))]:Row),1,.inr rfl,(nz _ R).symm,(nz _ S).symm,⟨[q],z9,.cons (ai _ _ b6) .nil⟩,?_,?_
    ·intro k hr;rw[List.mem_singleton.mp hr];show ((↑b:Nat):Int)<=(↑(b++nP g c):Nat);rw[cY];lia
    ·rw[ny,s.gc g O,xo,Nat.zero_add,List.nil_append];refine AL _ _ _ ?_;rw[cY,mz];lia
    ·simp only[iA];lia
   ·rw[if_neg (λz=>i (Sum.inl.inj z))]at e;let⟨k,wR,y,e2,J,e4,e5,e6,e7,e8⟩:=s.got g v e;subst y;refine⟨k,wR,1,.inl e2,J,e4,e5.two (λf q=>Y3 _ _ q J e4 (cS q G)) (λa f e=>ar _ _ e),e6,?_,by lia⟩;rw[e7,ny,nA (λz=>i z.symm),ir]
  ·rw[kQ]at e;let i:g≠h:=λz=>by rw[z,if_pos rfl]at e;cases e
   rw[if_neg (λz=>i (Sum.inl.inj z))]at e;rw[ny,s.gc g e,nA (λz=>i z.symm),ir]
  ·let gC:∀ g v,g≠h->cE B (Sum.inl g)=⇑v->v≠.ref z:=λg v i e ae=>by
    let⟨k,wR,y,e2,_⟩:=s.got g v e;rw[y]at ae;cases ae;exact nz _ e2 rfl
   rw[kQ]at e l;by_cases i:g=h
   ·by_cases k:g'=h
    ·rw[i,k]
    ·rw[i,if_pos rfl]at e;rw[if_neg (λz=>k (Sum.inl.inj z))]at l;cases e;exact absurd rfl (gC _ _ k l)
   ·rw[if_neg (λz=>i (Sum.inl.inj z))]at e;by_cases k:g'=h
    ·rw[k,if_pos rfl]at l;cases l;exact absurd rfl (gC _ _ i e)
    ·rw[if_neg (λz=>k (Sum.inl.inj z))]at l;exact s.one _ _ _ e l
  ·let i:a≠s0:=λz=>m (by rw[z];exact R);have k:a≠o:=λz=>m (by rw[z];exact S);have y:a≠p:=λz=>m (by rw[z];exact sp);exact Y3 _ _ e i k y
def GZ(a:List V){p q:Int}(h:0<=p)(g:0<=q):kL a (⇑p) (⇑q)=(a.take q.toNat).drop p.toNat:=by
 unfold kL
 let e:∀ r:Int,0<=r->∀ d,_HT.ji ↑a d (⇑r)=min r.toNat ↑a:=λr b d=>by
  show (if r<0 then (r+(↑a:Int)).toNat else min r.toNat ↑a)=_;rw[if_neg ∅]
 rw[e p h,e q g,List.drop_take];rcases Nat.le_total p.toNat ↑a with z|z
 ·rw[Nat.min_eq_left z];rcases Nat.le_total q.toNat ↑a with y|y
  ·rw[Nat.min_eq_left y]
  ·rw[Nat.min_eq_right y,qv (by rw[qy];lia),qv (by rw[qy];lia)]
 ·rw[Nat.min_eq_right z,yp (fF _),yp z];simp
def Q0(n:Nat)(p:Int × Int):Bool:=decide (0<=p.1)&&decide (p.1<p.2)&&decide (p.2<=(n:Int))
def oj(n:Nat)(a:Row):Bool:=a.all (Q0 n)
class inductive UZ(C:Addr)
 | mk (d:Y1) (x e s o p r:Addr) (n:Nat) (b:fY) (a:Row) (_:vs=[↥x,↥r]) (_:We C d H x e s o p n b) (_:bU H r a) (_:↑a<=1000) (_: ∀ c,aJ H c->Q (.bl (oj ↑b a)) c)
theorem BF:‹(2,59,["c","j"],(UZ cT))›:=λD=>by
 specialize eZ ["c","j"] D.mo.F;let⟨S,x,o,s0,t,w,r,j,b,e,rfl,W,R,v,y⟩:=h;refine⟨_,#v[aK (cA (Nf rfl) rfl D.T.va PyProof.Rows.boot_all #[gO (N:=["i","o","c"]) (jJ (c:=b9 qJ) (f:=["c","j"]) (d:=[none,none,some 0]) rfl rfl rfl nofun nofun rfl nofun rfl nofun) rfl (cC (pv 1)) (λ_ _ _ _ _ _=>(rK (n:=2) rfl (bR (bW 0) (bR (bW 1) gB)))) (λ_ _ _ _ _ _=>gU) (λ_ _ _ _ _ _=>(Ng gJ kJ gJ az (pv 0) (pv 1) (fD (pv 2) D.iy D.Nk (jT D) hr bH)))])],?_⟩
 rfl'
 let⟨v,j,p⟩:=id R;let z:=p.len;refine⟨Y,r,1,⟨_,bJ.of j⟩,λc s=>gv (K:=bV) (h:=r) (a:=v.map V.ref) (λi f a=>∃ u bf:Option V,f=[u,bf,⇑↥x]/\a c=⇑(.lst (((e.take i).map (Q0 ↑b)).map V.bl))/\aJ H a) ⟨none,none,1,af,ao s _⟩ (by rintro i f a _ ⟨_,_,_,_,s0⟩;exact bJ.of (s0 _ _ j)) ?_ ?_⟩
 ·rintro i F f a q ⟨u,bf,rfl,g,d⟩;rw[kB]at q;let⟨B,C,rfl⟩:=Option.map_eq_some_iff.mp q;let⟨q,r,j⟩:=ko p C;let l:=W.same d;exists B,Y,dN.of (d _ _ j),1,E,1,Z
  let m:∀ v:Bool,Q0 ↑b q=v->∃ j,a c=⇑(.lst j)/\↑j<sizeLine/\∃ u bf:Option V,[⇑(V.int q.1),⇑(V.int q.2),⇑↥x]=[u,bf,⇑↥x]/\(aO a c (.lst (j++[.bl v]))) c=⇑(.lst (((e.take (i+1)).map (Q0 ↑b)).map V.bl))/\aJ H (aO a c (.lst (j++[.bl v]))):=λv i=>by
   exists _,g,?_,E,1,?_
   ·rw[b8,b8,gI];exact aQ ∅
   ·rw[af,take_snoc r,gm,gm,← i];rfl
   ·intro i j k;rw[aN (aB k s)];exact d _ _ k
  refine⟨Y,Z,Y,dO (λk=>?_) (λk=>m false ?_)⟩
  ·refine⟨Y,Z,Y,dO (λn=>?_) (λn=>m false ?_)⟩
   ·refine⟨Y,x,o,Y,l.hx,1,x,o,s0,t,w,b,1,l.hx,l.hs,Z,m _ ?_⟩;unfold Q0;rw[k,n];rfl
   ·unfold Q0;rw[k,Bool.eq_false_iff.mpr n];rfl
  ·unfold Q0;rw[Bool.eq_false_iff.mpr k];rfl
 ·rintro f a ⟨u,bf,rfl,g,d⟩;rw[b8,z,gQ]at g;exists c,Y,bJ.of g
  let k:(e.map (Q0 ↑b)).all id=oj ↑b e:=by
   unfold oj;rw[List.all_map];rfl
  rw[k];exact y a d
def DU.ox{a:dD}(h:DU a){s:Int}:¬ Reach (jX a) s s:=by
 let⟨b,_,c⟩:=h
 let d:∀ g,Reach (jX a) s g->b g<b s:=by
  intro g r
  induction r with
  | one e=>exact c _ _ e
  | step _ e b=>exact Nat.lt_trans (c _ _ e) b
 exact λz=>Nat.lt_irrefl _ (d s z)
structure nB(rows:dD)(f:Int->Int):Prop where
 len:↑rows<=100
 es:∀ es∈rows,↑es<=1000
 sd:gZ rows
 rk:DU rows
 wt:Weighs rows f
 most:∀ x:Int,0<=x->x<↑rows->f x<=200
class inductive Q3
 | mk (r:Addr) (a:dD) (s:Int) (f:Int->Int) (_:vs=[↥r,.int s]) (_:iC H r (a.map aL)) (_:nB a f) (_:0<=s) (_:s<↑a) (_: ∀ b,aJ H b->Q .gc b)
theorem AM:‹(4,60,["n","g"],Q3)›:=λD=>by
 specialize eZ ["n","g","way","0","number"] D.mr.F;let⟨r,a,s,j,rfl,c,B,l,m,q⟩:=h;let n:=gM hr;let⟨t,v⟩:=D.G.w;let y:=B.len;exists _,#v[aY 2 (aF D.k' (UD D) hr #[0,1]),bN (DA (SM (pv 2))) #v[iH] bu,aY 3 (aF D.lq (wV D) hr #[0,fP (tH rfl) rfl D.T.jv tR #[fP DS rfl D.T.jO PyProof.Rows.boot_range #[fR D.T.fE (pv 0)]]]),eO PassesOwn.never rfl (jA rfl D.T.jO #[fR D.T.fE (pv 0)]) (bW 4) #v[bN (aV za (fK n (pv 3) (pv 4)) (Dz (v:=.int 200) rfl v ⟨t,1⟩) (bz _)) #v[iH] bu]]
 rfl'
 refine⟨Y,Y,r,s,1,r,a,s,s,1,c,by lia,B.es,B.sd,l,m,B.rk.ox,λk l=>?_⟩;refine⟨Y,false,1,fT ?_⟩;let m:=c.same l;let⟨vs,n,t⟩:=id m;let m:↑vs=↑a:=by rw[t.len,b8]
 refine⟨Y,Y,r,Y,.inl (bJ.of n),Y,λd t=>⟨d,E,1,af,⟨by lia,by lia,by lia,by lia⟩,gV (aQ ∅),λL n=>?_⟩⟩;rw[zV,m,show ((↑a:Int)-0).toNat=↑a by lia];rw[m]at n;let e:=l.trans ((ao t (.Fq 0 ((↑a:Nat):Int))).trans (ao n (.lst ((run 0 ↑a).map V.int))));let o:(aO (aO k d (.Fq 0 ((↑a:Nat):Int))) L (.lst ((run 0 ↑a).map V.int))) L=⇑(.lst ((run 0 ↑a).map V.int)):=af;generalize aO (aO k d (.Fq 0 ((↑a:Nat):Int))) L (.lst ((run 0 ↑a).map V.int))=d at e o;refine⟨r,L,a,run 0 ↑a,j,1,c.same e,o,by rw[LJ];lia,by lia,B.es,B.sd,B.rk,(λx b=>by have:=PR b;lia),B.wt,λS k d l w m _=>?_⟩;let d:=e.trans m;let⟨e,m,n⟩:=c.same d;let c:↑e=↑a:=by rw[n.len,b8]
 refine⟨Y,r,Y,.inl (bJ.of m),Y,by lia,by lia,?_⟩;refine oz (lo:=0) (n:=((↑e:Nat):Int).toNat) (λi f b=>∃ u:Option V,f=[⇑↥r,⇑(.int s),⇑.gc,⇑↥S,u]/\aJ H b/\b S=⇑(.dK k)) ⟨none,1,d,l⟩ ?_ ?_
 ·rintro i f b C ⟨u,rfl,g,p⟩;let x:i<↑a:=by lia
  let z:=gu.k (k:=Sum.inl (0+(i:Int))) p;rw[w (0+(i:Int)) (by rw[show (0:Int)+(i:Int)=0+i from rfl];exact mC (LF 0 ↑a i x))]at z;exists Y,Y,S,Y,z,Z,Y;rw[decide_eq_false (show ¬ j (0+(i:Int)) > 200 from λy=>by have:=B.most (0+(i:Int)) ∅ ∅;lia)];exact fT ⟨Y,g,p⟩
 ·rintro f b ⟨u,rfl,g,_⟩;exact q b g
structure ie(C CS:Addr)(S:Y1)(H:Hp)(x d wl sh bl kn du bk dS st op:Addr)(bP:lJ)(ops:Wp)(aA:gS):Prop where
 hx:H x=⇑(.ins C d [("E",↥wl),("B",↥sh),("H",↥bl),("R",↥kn),("dues",↥du),("book",↥bk)])
 W:Sh CS S H sh dS st op bP ops
 hb:H bk=⇑(lI aA)
 nx:¬ S x
 nb:¬ S bk
def Fr(b e:Y1)(f:Addr)(H c:Hp):Prop:=(∀ a,e a->b a\/H a=none)/\(∀ a d,H a=⇑d->¬ b a->a≠f->c a=⇑d)/\∀ a d,H a=⇑(.tup d)->c a=⇑(.tup d)
theorem Fr.same{b c:Y1}{d:Addr}{g H h:Hp}(s:aJ g H)(f:Fr b c d H h):Fr b c d g h :=
 ⟨λa z=>(f.1 a z).imp id λy=>aU s y,λa i e j k=>f.2.1 a i (s _ _ e) j k,λa i e=>f.2.2 a i (s _ _ e)⟩
theorem ie.same{C:Addr}{a:Y1}{H b:Hp}{x d c e f g h i:Addr}{j:lJ}{k:Wp}{l:gS}(L:ie C m a H x d c e f n g h o i p j k l)(s:aJ H b):ie C m a b x d c e f n g h o i p j k l :=
 ⟨s _ _ L.hx,L.W.same s,s _ _ L.hb,L.nx,L.nb⟩
theorem ie.wa{C:Addr}{b:Y1}{H:Hp}{x d c e f g a h:Addr}{i:lJ}{j:Wp}{k:gS}(L:ie C m b H x d c e f n g a o h p i j k):x≠a:=λl=>by
 let z:=L.hx;rw[l,L.hb]at z;cases z
class inductive U0(C CS:Addr)
 | mk (b:Y1) (x d c e f g h i j k l:Addr) (m:lJ) (a:Wp) (n:gS) (_:vs=[↥x]) (_:ie C CS b H x d c e f g h i j k l m a n) (_:Q (.int (↑a:Nat)) H)
class inductive Q4(C CS:Addr)
 | mk (b:Y1) (x d c e f g h i j k l:Addr) (a:lJ) (m:Wp) (n:gS) (_:vs=[↥x]) (_:ie C CS b H x d c e f g h i j k l a m n) (_:Q (.int ((↑a:Nat)-1)) H)
class inductive L7(C CS:Addr)
 | mk (k:Y1) (x l m n o p q c r t u:Addr) (d:lJ) (v:Wp) (f:gS) (y g:Addr) (h:jz) (i:WF) (e:List (Nat × List aX)) (b:List (List aX)) (_:vs=[↥x,↥y,↥g]) (_:ie C CS k H x l m n o p q c r t u d v f) (_:h.At H y) (_:h.Ok) (_:H g=⇑(.lst (i.map V.ref))) (_:g≠c) (_:cP (JY H) i e) (_:(∀ a∈i,∀ (s:Int) (z:Addr),H a=⇑(.tup [.int s,↥z])->z≠c)) (_:d.getLast?=⇑b) (_:YX b e) (_:↑e<=200) (_:↑b<=500) (_:↑d<=1000) (_:↑f<=1000) (_ :
 ∀ (A:Y1) (j:Hp),ie C CS A j x l m n o p q c r t u (d++[oh b e]) (v++List.replicate (↑(oh b e)-↑b) ((↑d:Nat):Int)) (f++[h.line])->Fr k A c H j->Q .gc j)
theorem yC:‹(2,64,["c"],(U0 eK cH))›:=λD=>by
 specialize eZ ["c"] D.mx.F;let⟨S,x,d,i,a,j,l,m,n,b,c,e,f,g,o,rfl,L,k⟩:=h;exists _,#v[aK (fD (cG (pv 0) rfl) D.dF D.Yt (tN D) hr bH)]
 rfl'
 exact⟨Y,x,eK,d,_,↥a,1,L.hx,D.aM.cl,D.gF,1,a,b,Y,L.W.hx,1,S,a,b,c,e,f,g,1,L.W,k⟩
theorem AN:‹(2,83,["c"],(Q4 eK cH))›:=λD=>by
 specialize eZ ["c"] D.no.F;let⟨S,x,d,i,a,j,l,m,n,b,c,e,o,p,q,rfl,L,k⟩:=h;let⟨i,f,g⟩:=L.W.hs;exists _,#v[aK (fD (cG (pv 0) rfl) D.dF D.Qj (mw D) hr bH)]
 rfl'
 exists Y,x,eK,d,_,↥a,1,L.hx,D.aM.cl,D.gF,1,a,b,Y,L.W.hx,1,a,b,c,e,Y,L.W.hx,f;rw[b8,g.len];exact k
theorem ig:‹(3,62,["c","V","1"],(L7 eK cH))›:=λD=>by
 specialize eZ ["c","V","1"] D.Nl.F;let⟨S,x,s,wl,i,bl,kn,du,b,k,u,v,w,y,c,I,J,e,B,M,N,rfl,L,O,C,R,T,U,W,X,oc,l1,l2,l3,l4,ab⟩:=h;exists _,#v[aT (dZ oS jE jF bX (cG (pv 0) rfl) #[aF D.lQ (BB D) hr #[1]]),aT (cL (cG (pv 0) rfl) D.dF D.l' (BD D) hr bH #[2])]
 rfl'
 refine⟨Y,x,eK,s,_,↥b,1,L.hx,D.aM.cl,D.FT,1,.inl ⟨1,_,bJ.of L.hb⟩,Y,I,e,1,O,C,JW C,λj l=>?_⟩;refine⟨b,Z,l _ _ L.hb,aQ (by rw[b8];lia),?_⟩;let e2:(c.map λbf=>V.str (gi bf))++[V.str (gi e.line)]=(c++[e.line]).map λbf=>V.str (gi bf):=by rw[gm];rfl
 rw[e2]
 let d:cD b H (aO j b (lI (c++[e.line]))):=λa F q n=>by
  rw[aN n];exact l _ _ q
 let m:(aO j b (lI (c++[e.line]))) b=⇑(lI (c++[e.line])):=af
 let G:∀ a,(aO j b (lI (c++[e.line]))) a=none->H a=none:=λa q=>by
  by_cases z:a=b
  ·rw[z,af]at q;cases q
  ·rw[aN z]at q;exact aU l q
 generalize aO j b (lI (c++[e.line]))=c at d m G;let o:∀ a g,H a=⇑(.tup g)->c a=⇑(.tup g):=λa g q=>d _ _ q (cS q L.hb);have b:Sh cH S c i k u v w y:=L.W.keep L.hb L.nb d;have p:=d _ _ L.hx L.wa;refine⟨Y,x,eK,s,_,↥i,1,p,D.aM.cl,D.gF,1,i,k,Y,b.hx,1,Y,S,i,k,u,v,J,w,y,B,M,N,1,b,d _ _ R T,?_,X,oc,l1,l2,l3,λS' H3 W3 f r tp=>?_⟩
 ·let ae:∀ {b:WF} {e:List (Nat × List aX)},cP (JY H) b e->(∀ a∈b,a∈B)->cP (JY c) b e:=by
   intro b e q
   induction q with
   | nil=>intro _;exact .nil
   | cons F t b =>
    intro f;refine .cons ?_ (b λa b=>f a (j0 _ b));let⟨c,b,e⟩:=F;let i:=W _ (f _ qx) _ c b;exact⟨c,o _ _ b,e.fr (λg q=>d _ _ q i) o⟩
  exact ae U λ_ z=>z
 ·refine ab S' H3 ⟨r _ _ p L.nx,W3,r _ _ m L.nb,λz=>?_,λz=>?_⟩ ⟨λa z=>(f a z).imp id λq=>G a q,λa c q n b=>r _ _ (d _ _ q b) n,λa g q=>tp _ _ (o _ _ q)⟩
  ·rcases f _ z with q|q
   ·exact L.nx q
   ·rw[p]at q;cases q
  ·rcases f _ z with q|q
   ·exact L.nb q
   ·rw[m]at q;cases q
abbrev qW(a:gT):lJ:=a.map λb=>b.map aL
def iW(a:dD)(s:Nat)(b:Wp):dD:=a.take s++[b]++a.drop (s+1)
def U6(a:dD)(s:Nat)(b:Wp):oh (a.map aL) [(s,aL b)]=(iW a s b).map aL:=by
 show (a.map aL).take s++[aL b]++(a.map aL).drop (s+1)=_;unfold iW;rw[gm,gm,List.map_take,List.map_drop];rfl
def G0{a:dD}{s:Nat}{b:Wp}(h:s<=↑a):↑(iW a s b)=if s=↑a then ↑a+1 else ↑a:=by
 unfold iW;rw[cY,cY,gI,qy];show min s ↑a+1+_=_
 split <;> lia
def Q5(a:Wp)(n s m:Nat):Wp:=a++if s=n then [(m:Int)] else []
def Y4{a:dD}{s:Nat}{d:Wp}{b:Wp}{m:Nat}(h:s<=↑a):b++List.replicate (↑((iW a s d).map aL)-↑(a.map aL)) (m:Int)=Q5 b ↑a s m:=by
 rw[b8,b8,G0 h];unfold Q5;by_cases c:s=↑a
 ·rw[if_pos c,if_pos c,show ↑a+1-↑a=1 by lia];rfl
 ·rw[if_neg c,if_neg c,Nat.sub_self];rfl
class inductive G1(C CS:Addr)
 | mk (h:Y1) (x i j k l m n c o p q:Addr) (b:gT) (t:Wp) (d:gS) (u r:Addr) (e:jz) (s:Nat) (f:Wp) (a:dD) (y:Int->Int) (_:vs=[↥x,↥u,.int (s:Nat),↥r]) (_:ie C CS h H x i j k l m n c o p q (qW b) t d) (_:e.At H u) (_:e.Ok) (_:ck H ↥r (aL f)) (_:r≠c) (_:b.getLast?=⇑a) (_:s<=↑a) (_:↑a<=50) (_:↑b<=900) (_:↑d<=900) (_:nB (iW a s f) y) (_ :
 ∀ (v:Y1) (g:Hp),ie C CS v g x i j k l m n c o p q (qW (b++[iW a s f])) (Q5 t ↑a s ↑b) (d++[e.line])->Fr h v c H g->Q .gc g)
def ly{a:gT}{b:dD}(h:a.getLast?=⇑b):(qW a).getLast?=⇑(b.map aL):=by
 rw[List.getLast?_map,h];rfl
def Q6{H a:Hp}{b:WF}{c:List (List aX)}{r:Addr}{d:List aX}{s:Nat}(f:cP (λq i=>ck a ↥q i) b c)(g:ck a ↥r d):cP (ck a) ((b.map V.ref).take s++[↥r]++(b.map V.ref).drop (s+1)) (c.take s++[d]++c.drop (s+1)):=by
 let e:cP (ck a) (b.map V.ref) c:=by
  induction f with
  | nil=>exact .nil
  | cons o t h=>exact .cons o h
 exact ((e.take s).app (.cons g .nil)).app (e.drop (s+1))
theorem eY:‹(5,63,["c","V","g","l"],(G1 eK cH))›:=λD=>by
 specialize eZ ["c","V","g","l"] D.Gv.F;let⟨S,x,l,M,g,N,O,R,u,m,v,w,b,n,T,U,r,W,s0,c,a,X,rfl,L,de,ok,y,ab,hl,j,l1,l2,l3,ae,ag⟩:=h;let o:=ly hl;let lp:↑(qW b)=↑b:=b8 _
 let lo:↑n=↑a:=by
  let⟨f,d,e⟩:=L.W.Sw.Dh;rw[o]at d;cases d;rw[e,b8]
 exists _,#v[aT (aF D.mr (AM D) hr #[aF D.Ys (AI D) hr #[fD (cG (pv 0) rfl) D.dF D.Ea (gr D) hr bH,2,3],2]),aT (cL (pv 0) D.aM D.Nl (ig D) hr bH #[1,bM #[c9 #[2,3]]])]
 rfl'
 refine⟨Y,x,eK,l,_,↥g,1,L.hx,D.aM.cl,D.gF,1,g,m,Y,L.W.hx,1,S,g,m,v,w,qW b,n,1,L.W,⟨by lia,by lia⟩,λam B ai H1 fs p=>?_⟩;rw[o]at B;cases B;let⟨B,rs,hq,C⟩:=fs;let B:↑rs=↑a:=by rw[C.len,b8]
 let ak:=y.same p;let L1:=L.same p;refine⟨Y,Y,ai,r,_,s0,1,hq,by rw[b8,B];exact j,by rw[b8,B];lia,λB H2 VZ q f2=>?_⟩
 refine⟨Y,B,iW a s0 c,(s0:Int),X,1,⟨_,VZ,?_⟩,ae,by lia,by rw[G0 j];split <;> lia,λe s3=>?_⟩
 ·let z:=Q6 (H:=H) (a:=H2) (s:=s0) (C.mono λf k d=>(d.2.2).same q) (ak.same q)
  let f:(a.map aL).take s0++[aL c]++(a.map aL).drop (s0+1)=(iW a s0 c).map aL:=by
   unfold iW;rw[gm,gm,List.map_take,List.map_drop];rfl
  rw[f]at z;exact z
 let F:=p.trans (q.trans s3);let q:=L.same F;refine⟨Y,x,l,Y,q.hx,1,Y,Y,Y,mj,λt B=>⟨mh,λd p=>?_⟩⟩;let G:aJ e (aO (aO e t (.tup [.int (s0:Nat),↥r])) d (.lst [↥t])):=(ao B _).trans (ao p _);let s:(aO (aO e t (.tup [.int (s0:Nat),↥r])) d (.lst [↥t])) t=⇑(.tup [.int (s0:Nat),↥r]):=ao p _ _ _ af;let I:(aO (aO e t (.tup [.int (s0:Nat),↥r])) d (.lst [↥t])) d=⇑(.lst ([t].map V.ref)):=af
 let nc:d≠u:=λz=>by
  have:=ao B (.tup [.int (s0:Nat),↥r]) _ _ q.hb;rw[← z,p]at this;cases this
 generalize aO (aO e t (.tup [.int (s0:Nat),↥r])) d (.lst [↥t])=e at G s I;let k:=F.trans G;refine⟨S,x,l,M,g,N,O,R,u,m,v,w,qW b,n,T,U,d,W,[t],[(s0,aL c)],a.map aL,1,L.same k,de.same k,ok,I,nc,.cons ⟨r,s,y.same k⟩ .nil,?_,o,?_,(by show 1<=200;decide),by rw[b8];lia,by lia,by lia,λS' H' J fr=>?_⟩
 ·intro e d g l f;rw[List.mem_singleton.mp d,s]at f;cases f;exact ab
 ·intro i d f
  match i,f with
  | 0,f =>
   cases f;show s0<=↑(a.map aL);rw[b8];exact j
  | i+1,f=>cases f
 ·rw[U6,Y4 j,lp]at J;refine ag S' H' ?_ (fr.same k)
  let f:qW (b++[iW a s0 c])=qW b++[(iW a s0 c).map aL]:=by
   show (b++[iW a s0 c]).map _=_;rw[gm];rfl
  rw[f];exact J
class inductive U7(C CS:Addr)
 | mk (h:Y1) (x i j k l m n c o p q:Addr) (b:gT) (t:Wp) (d:gS) (u r:Addr) (e:jz) (f:Wp) (a:dD) (_:vs=[↥x,↥u,↥r]) (_:ie C CS h H x i j k l m n c o p q (qW b) t d) (_:e.At H u) (_:e.Ok) (_:ck H ↥r (aL f)) (_:r≠c) (_:b.getLast?=⇑a) (_:↑a<=50) (_:↑b<=900) (_:↑d<=900) (_:↑a<40) (_:((∃ y,nB (a++[f]) y)/\∀ (v:Y1) (g:Hp),ie C CS v g x i j k l m n c o p q (qW (b++[a++[f]])) (t++[((↑b:Nat):Int)]) (d++[e.line])->Fr h v c H g->Q (.int (↑a:Nat)) g))
def G2(a:dD)(b:Wp):iW a ↑a b=a++[b]:=by
 unfold iW;rw[gQ,yp ∅,ir]
def Eu{C:Addr}{e:Y1}{H:Hp}{x f g h i j k l:Addr}{a:gT}{b:Wp}{m:gS}{c:dD}(L:ie C p e H x f g h i q j k r l t (qW a) b m)(n:a.getLast?=⇑c):↑b=↑c:=by
 let⟨s,d,o⟩:=L.W.Sw.Dh;rw[ly n]at d;cases d;rw[o,b8]
theorem xr:‹(6,65,["c","V","l"],(U7 eK cH))›:=λD=>by
 let⟨r,s⟩:=D.G.s;specialize eZ ["c","V","l","g"] D.my.F;let⟨S,x,d,f,g,i,j,k,l,m,n,o,a,b,p,t,u,v,w,c,rfl,L,y,z,B,C,q,F,G,I,U,J⟩:=h;let lo:=Eu L q;exists _,#v[aY 3 (fD (pv 0) D.aM D.mx (yC D) hr bH),bN (aV VM (pv 3) (Dz (v:=.int 40) rfl s ⟨r,1⟩) (bz _)) #v[iH] bu,aT (cL (pv 0) D.aM D.Gv (eY D) hr bH #[1,3,2]),aK (pv 3)]
 rfl'
 exists Y,x,d,Y,L.hx,1,S,x,d,f,g,i,j,k,l,m,n,o,qW a,b,p,1,L;rw[lo];refine⟨Y,Z,Y,dO (λr=>?_) (λr=>?_)⟩
 ·exact absurd (of_decide_eq_true r) ∅
 ·let⟨⟨r,s⟩,M⟩:=J;refine⟨Y,x,d,Y,L.hx,1,Y,Y,Y,S,x,d,f,g,i,j,k,l,m,n,o,a,b,p,t,u,v,↑c,w,c,r,1,L,y,z,B,C,q,fF _,F,G,I,by rw[G2];exact s,λN O e R=>?_⟩;rw[G2]at e;let T:Q5 b ↑c ↑c ↑a=b++[((↑a:Nat):Int)]:=by unfold Q5;rw[if_pos rfl]
  rw[T]at e;exact⟨Y,M N O e R⟩
abbrev hC:List Nat:=(Str.ofString "5").cps.toList
theorem Q7:(jz.plain hC []).Ok:=⟨nofun,λ_ z=>by cases z⟩
class inductive U8(C CS:Addr)
 | mk (f:Y1) (x g h i j k l c m n o:Addr) (b:gT) (p:Wp) (d:gS) (a:dD) (_:vs=[↥x]) (_:ie C CS f H x g h i j k l c m n o (qW b) p d) (_:b.getLast?=⇑a) (_:↑a<=50) (_:↑b<=900) (_:↑d<=900) (_:↑a<40) (_:((∃ r,nB (a++[[]]) r)/\∀ (q:Y1) (e:Hp),ie C CS q e x g h i j k l c m n o (qW (b++[a++[[]]])) (p++[((↑b:Nat):Int)]) (d++[(jz.plain hC []).line])->Fr f q c H e->Q (.int (↑a:Nat)) e))
theorem xu:‹(7,66,["c"],(U8 eK cH))›:=λD=>by
 specialize eZ ["c"] D.Yv.F;let⟨S,x,d,i,j,k,l,m,c,n,o,p,q,s,u,v,rfl,L,w,y,z,B,C,F⟩:=h;exists _,#v[aK (cL (pv 0) D.aM D.my (xr D) hr bH #[c9 #[bw],bM ah])]
 rfl'
 refine⟨Y,x,d,Y,L.hx,1,mh,λt e=>⟨iz,λr a=>?_⟩⟩;let b:aJ H (aO (aO H t (.tup [.str "5"])) r (.lst [])):=(ao e _).trans (ao a _);let f:(aO (aO H t (.tup [.str "5"])) r (.lst [])) t=⇑(.tup [.str "5"]):=ao a _ _ _ af;let g:(aO (aO H t (.tup [.str "5"])) r (.lst [])) r=⇑(.lst []):=af
 let G:r≠c:=λI=>by
  have:=ao e (.tup [.str "5"]) _ _ L.hb;rw[← I,a]at this;cases this
 generalize aO (aO H t (.tup [.str "5"])) r (.lst [])=a at b f g;exists S,x,d,i,j,k,l,m,c,n,o,p,q,s,u,t,r,.plain hC [],[],v,1,L.same b,by show a t=_;rw[f,pC];rfl,Q7,⟨r,[],1,g,.nil⟩,G,w,y,z,B,C;let⟨B,a⟩:=F;exact⟨B,λc d e f=>a c d e (f.same b)⟩
theorem mK{H b:Hp}{c:Addr}{o:HO}(d:H a=none)(f:H c=none)(k:cD a (aO (aO H c (.own a)) a o) b):aJ H b:=λg h e=>k g h (by rw[aN (aB e d),aN (aB e f)];exact e) (aB e d)
theorem Sh.lC{C:Addr}{a:Y1}{H b:Hp}{x d c l:Addr}{f:lJ}{g:Wp}{i:List (Str × V)}(j:Sh C a H x d c m f g)(n:H l=⇑(.ins r t i))(o:¬ a l)(k:cD l H b):Sh C a b x d c m f g :=
 j.fr (λh p e z=>k h p e (λq=>o (by rw[← q];exact z))) (λh h e=>k _ _ e (cS e n))
structure Seen(rows:dD)(sh:Y2):Prop where
 es:∀ es∈rows,↑es<=1000
 sd:gZ rows
 rk:DU rows
 ss:nh rows sh
 ln:∀ x:Int,0<=x->x<↑rows->↑(sh x)<=10000
def UQ.at_{H a:Hp}{q:Addr}{d:List (List aX)}(h:UQ H a q d):iC a q d:=by
 let⟨_,b,c,e⟩:=h;exists b.map V.ref,c
 let f:∀ {b:WF} {c:List (List aX)},cP (λr g=>H r=none/\r≠q/\ck a ↥r g) b c->cP (ck a) (b.map V.ref) c:=by
  intro b c z
  induction z with
  | nil=>exact .nil
  | cons o t b=>exact .cons o.2.2 b
 exact f e
def ie.rws{C:Addr}{e:Y1}{H:Hp}{x j k b l m n f:Addr}{a:gT}{g:Wp}{o:gS}{c:dD}{Q:VK}{E:XK}(L:ie C p e H x j k b l y m n r f t (qW a) g o)(h:a.getLast?=⇑c)(z:↑c<=50)(A:↑a<=900)(u:∀ (q:Addr) (d:Hp),iC d q (c.map aL)->aJ H d->Q ↥q d):QU p [↥b] H Q E:=by
 let lo:=Eu L h;let B:↑(qW a)=↑a:=b8 _;refine⟨e,b,r,f,t,qW a,g,1,L.W,⟨by lia,by lia⟩,λrws i q v w s=>?_⟩;rw[ly h]at i;cases i;exact u q v w.at_ s
theorem ie.Y5{C:Addr}{c:Y1}{H:Hp}{x g h a i j k d:Addr}{b:gT}{e:Wp}{l:gS}{f:dD}{s:Int}{Q:VK}{E:XK}(L:ie C m c H x g h a i t j k n d o (qW b) e l)(p:b.getLast?=⇑f)(q:qV ↑f s)(r:Q .gc H):Dj m [↥a,.int s] H Q E:=⟨c,a,n,d,o,qW b,e,s,1,L.W,by rw[Eu L p];exact q,r⟩
class inductive Q8(C CS:Addr)
 | mk (d:Y1) (x e g h i j k l m n p:Addr) (b:gT) (q:Wp) (r:gS) (a:dD) (s:Int) (_:vs=[↥x,.int s]) (_:ie C CS d H x e g h i j k l m n p (qW b) q r) (_:b.getLast?=⇑a) (_:↑a<=50) (_:↑b<=900) (_:qV ↑a s) (_:(∃ f,Seen a f/\∀ (o:Addr) (c:Hp),bU c o (cy (f s))->aJ H c->H o=none->Q ↥o c))
theorem iX:‹(5,71,["c","g"],(Q8 eK cH))›:=λD=>by
 specialize eZ ["c","g"] D.Qk.F;let⟨S,x,d,a,b,l,m,n,o,e,p,q,r,s,t,g,s0,rfl,L,f,i,j,c,k⟩:=h;exists _,#v[aT (cL (cG (pv 0) rfl) D.dF D.Gu (dJ D) hr bH #[1]),aK (_fJ.vF D.Qi (D.T.qU _ D.Qi.m) (GG D) hr #[fD (cG (pv 0) rfl) D.dF D.Ea (gr D) hr bH,1])]
 rfl'
 refine⟨Y,x,eK,d,_,↥b,1,L.hx,D.aM.cl,D.gF,1,b,e,Y,L.W.hx,1,Y,L.Y5 f c ?_⟩;let⟨l,a,m⟩:=k;refine⟨Y,x,eK,d,_,↥b,1,L.hx,D.aM.cl,D.gF,1,b,e,Y,L.W.hx,1,L.rws f i j λq e d b=>?_⟩;let e:=d;exact⟨Y,q,g,s0,l,1,e,by lia,a.es,a.sd,a.rk,c.1,c.2,a.ss,a.ln,λo a c d e=>m o a c (b.trans d) (aU b e)⟩
theorem ie.fr{C:Addr}{c:Y1}{H d:Hp}{x f g h i j e l:Addr}{m:lJ}{n:Wp}{o:gS}(L:ie C q c H x f g h i r j e t l u m n o)(k:∀ a b,H a=⇑b->(c a\/a=e\/a=x)->d a=⇑b)(v:∀ a p,H a=⇑(.tup p)->d a=⇑(.tup p)):ie C q c d x f g h i r j e t l u m n o :=
 ⟨k _ _ L.hx (.inr (.inr rfl)),L.W.fr (λa b s z=>k a b s (.inl z)) v,k _ _ L.hb (.inr (.inl rfl)),L.nx,L.nb⟩
inductive ek(S SW:Y1)(H:Hp)(bk bl du:Addr)(kd:Kd):Prop
 | mk (c:Addr) (b:Row) (_:Du kd.C H du c kd.t b) (_:nO b kd.fc) (_:∀ a,a=du\/a=kd.t->¬ S a/\¬ SW a/\a≠bk/\a≠bl):ek S SW H bk bl du kd
def ek.mv{j k l m:Y1}{H n:Hp}{d e f:Addr}{g:Kd}(r:ek j k H d e f g)(o:∀ a p,H a=⇑p->¬ j a->¬ k a->a≠d->a≠e->(a=f\/a=g.t)->n a=⇑p/\¬ l a/\¬ m a):ek l m n d e f g:=by
 let⟨s,t,⟨u,v⟩,P,q⟩:=r;let b:=q _ (.inl rfl);let c:=q _ (.inr rfl);let h:=o _ _ u b.1 b.2.1 b.2.2.1 b.2.2.2 (.inl rfl);let i:=o _ _ v c.1 c.2.1 c.2.2.1 c.2.2.2 (.inr rfl);refine⟨s,t,⟨h.1,i.1⟩,P,λa z=>?_⟩;rcases z with rfl|rfl
 ·exact⟨h.2.1,h.2.2,b.2.2⟩
 ·exact⟨i.2.1,i.2.2,c.2.2⟩
structure om(C CS CW CB:Addr)(U S SW:Y1)(H:Hp)(x d wl sh bl kn du bk dS st op dw sg ow pw db tb:Addr)(pe:gT)(ops:Wp)(aA:gS)(aC:fY)(nW:Nat × Kd)(aH:Row):Prop where
 L:ie C CS S H x d wl sh bl kn du bk dS st op (qW pe) ops aA
 W:We CW SW H wl dw sg ow pw nW.1 aC
 B:Bl CB H bl db tb
 R:bU H tb aH
 lG:uo aH/\ek S SW H bk bl du nW.2
 dj:∀ a,SW a->¬ S a/\a≠bk/\a≠x
 db:¬ S bl/\¬ SW bl/\bl≠bk
 dt:¬ S tb/\¬ SW tb/\tb≠bk
 u:∀ a,U a↔S a\/SW a\/a=bk\/a=x\/a=bl\/a=tb\/a=du\/a=nW.2.t
inductive mL(C CS CW CB:Addr)(U:Y1)(H:Hp)(x:Addr)(pe:gT)(aA:gS)(aC:fY)(nW:Nat × Kd)(aH:Row):Prop
 | mk (a b:Y1) (d c e f g h i j k l m n o p q r:Addr) (t:Wp) (_:om C CS CW CB U a b H x d c e f g h i j k l m n o p q r pe t aA aC nW aH)
def rT(U d:Y1)(H b:Hp):Prop:=(∀ a,d a->U a\/H a=none)/\(∀ a c,H a=⇑c->¬ U a->b a=⇑c)/\∀ a c,H a=⇑(.tup c)->b a=⇑(.tup c)
theorem rT.same{U:Y1}{H a:Hp}(s:aJ H a):rT U U H a:=⟨λ_ z=>.inl z,λb c e _=>s b c e,λb b e=>s _ _ e⟩
theorem rT.pre{U b:Y1}{c H d:Hp}(s:aJ c H)(f:rT U b H d):rT U b c d:=⟨λa z=>(f.1 a z).imp id λy=>aU s y,λa g e n=>f.2.1 a g (s _ _ e) n,λa g e=>f.2.2 a g (s _ _ e)⟩
def om.fr{C:Addr}{U f g:Y1}{H c:Hp}{x h i j l m n o p q db:Addr}{r:gT}{v:Wp}{y:gS}{A:fY}{D:Nat × Kd}{G:Row}(I:om C J M N U f g H x h i j l O m n T o op p sg ow q db tb r v y A D G)(k:∀ a b,H a=⇑b->U a->c a=⇑b)(t:∀ a d,H a=⇑(.tup d)->c a=⇑(.tup d)):om C J M N U f g c x h i j l O m n T o op p sg ow q db tb r v y A D G:=by
 let⟨L,W,B,R,lG,dj,s,dt,u⟩:=I;refine⟨L.fr (λa b e z=>k a b e ((u a).mpr ?_)) t,W.fr (λa b e z=>k a b e ((u a).mpr (.inr (.inl z)))) t,k _ _ B ((u _).mpr (.inr (.inr (.inr (.inr (.inl rfl)))))),R.two (λd e=>k _ _ e ((u _).mpr (.inr (.inr (.inr (.inr (.inr (.inl rfl)))))))) t,⟨lG.1,lG.2.mv λa b e w F _ _ z=>⟨k a b e ((u a).mpr (.inr (.inr (.inr (.inr (.inr (.inr z))))))),w,F⟩⟩,dj,s,dt,u⟩;rcases z with z|z|z
 ·exact .inl z
 ·exact .inr (.inr (.inl z))
 ·exact .inr (.inr (.inr (.inl z)))
theorem om.same{C:Addr}{U a b:Y1}{H c:Hp}{x d f g h i j k l m db:Addr}{n:gT}{o:Wp}{p:gS}{q:fY}{r:Nat × Kd}{t:Row}(v:om C y z A U a b H x d f g h D i j G k I l J M m db N n o p q r t)(s:aJ H c):om C y z A U a b c x d f g h D i j G k I l J M m db N n o p q r t:=v.fr (λu w e _=>s u w e) λu u e=>s _ _ e
def mL.fr{C:Addr}{U:Y1}{H b:Hp}{x:Addr}{c:gT}{d:gS}{e:fY}{f:Nat × Kd}{g:Row}(j:mL C k l n U H x c d e f g)(o:∀ a h,H a=⇑h->U a->b a=⇑h)(t:∀ a i,H a=⇑(.tup i)->b a=⇑(.tup i)):mL C k l n U b x c d e f g:=by
 let⟨S,m,p,q,r,s,u,v,w,y,z,A,B,D,F,G,I,J,L,M⟩:=j;exact⟨S,m,p,q,r,s,u,v,w,y,z,A,B,D,F,G,I,J,L,M.fr o t⟩
theorem mL.same{C:Addr}{U:Y1}{H a:Hp}{x:Addr}{b:gT}{c:gS}{d:fY}{f:Nat × Kd}{g:Row}(i:mL C j k l U H x b c d f g)(s:aJ H a):mL C j k l U a x b c d f g:=i.fr (λh m e _=>s h m e) λh h e=>s _ _ e
def om.vV{C:Addr}{U k c l:Y1}{H f:Hp}{x m o p g h d q t v db:Addr}{pe A:gT}{ab D:Wp}{aA G:gS}{I:fY}{r:Nat × Kd}{J:Row}(ae:om C M CW CB U k l H x m o p g N h d O q T t sg ow v db tb pe ab aA I r J)(L':ie C M c f x m o p g N h d O q T (qW A) D G)(fr:Fr k c d H f):∃ U',mL C M CW CB U' f x A G I r J/\rT U U' H f:=by
 let⟨L,W,B,R,lG,dj,i,dt,u⟩:=ae;let⟨s,w,_⟩:=id R
 let j:∀ a b,H a=⇑b->¬ k a->¬ c a:=λa b e n z=>by
  rcases fr.1 a z with y|y
  ·exact n y
  ·rw[e]at y;cases y
 refine⟨λa=>c a\/l a\/a=d\/a=x\/a=g\/a=tb\/a=h\/a=r.2.t,⟨c,l,m,o,p,g,N,h,d,O,q,T,t,sg,ow,v,db,tb,D,L',W.fr (λa b e z=>fr.2.1 _ _ e (dj a z).1 (dj a z).2.1) fr.2.2,fr.2.1 _ _ B i.1 i.2.2,R.two (λs e=>fr.2.1 _ _ e dt.1 dt.2.2) fr.2.2,⟨lG.1,lG.2.mv λa b e s F S _ _=>⟨fr.2.1 _ _ e s S,j _ _ e s,F⟩⟩,λa z=>?_,⟨j _ _ B i.1,i.2⟩,⟨j _ _ w dt.1,dt.2⟩,λa=>Iff.rfl⟩,λa z=>?_,λa b e n=>?_,fr.2.2⟩
 ·let⟨b,e⟩:=W.al a z;exact⟨j _ _ e (dj a z).1,(dj a z).2⟩
 ·rcases z with z|z
  ·exact (fr.1 a z).imp (λy=>(u a).mpr (.inl y)) id
  ·exact .inl ((u a).mpr (.inr z))
 ·exact fr.2.1 a b e (λz=>n ((u a).mpr (.inl z))) (λz=>n ((u a).mpr (.inr (.inr (.inl z)))))
theorem el:∀ y∈([]:Wp),jS y:=λ_ z=>by cases z
theorem IA{x:Int}{l:Wp}(a:0<=x)(b:x<10^60)(g:∀ y∈l,jS y):∀ y∈x::l,jS y:=λy z=>(List.mem_cons.mp z).elim (λe=>by rw[e];exact⟨a,b⟩) (g y)
def om.chg{C:Addr}{U l N:Y1}{H d:Hp}{x m o p q r v y O T db t e:Addr}{b:gT}{z:Wp}{f:gS}{A:fY}{D:Nat × Kd}{G:Row}{a:dD}{I:Str}{n:List Nat}{c g:Wp}{s:Int}{Q:VK}{E:XK}(i:om C J CW CB U l N H x m o p q kn r v dS y op O sg ow T db tb b z f A D G)(j:aJ H d)(ht:d t=⇑(.tup (.str I::c.map V.int)))(hn:I=gi n)(hk:jR QI n=⇑(↑c:Int))(hf:∀ ab∈c,jS ab)(hq:ck d ↥e (aL g))(fq:H e=none)(hl:b.getLast?=⇑a)(l1:↑a<=50)(l2:↑b<=900)(l3:↑f<=900)(M:qV ↑a s)(B:∃ ae,nB (iW a s.toNat g) ae)(ag:∀ (h:Y1) (k:Hp),mL C J CW CB h k x (b++[iW a s.toNat g]) (f++[(jz.plain n c).line]) A D G->rT U h H k->Q .gc k):G1 C J [↥x,↥t,.int s,↥e] d Q E:=by
 subst hn;let u:=M.1;let u:=M.2;let u:((s.toNat:Nat):Int)=s:=by lia
 let⟨w,B⟩:=B;refine⟨l,x,m,o,p,q,kn,r,v,dS,y,op,b,z,f,t,e,.plain n c,s.toNat,g,a,w,by rw[u],(i.same j).L,ht,⟨hk,hf⟩,hq,(λu=>by have:=i.L.hb;rw[← u,fq]at this;cases this),hl,by lia,l1,l2,l3,B,λL u w F=>?_⟩;let⟨h,L,R⟩:=(i.same j).vV w F;exact ag h u L (R.pre j)
class inductive Va(C CS CW CB:Addr)
 | mk (U:Y1) (x:Addr) (c:gT) (f:gS) (a:fY) (d:Nat × Kd) (i:Row) (h:Int) (b:List Nat) (g:dD) (_:vs=[↥x,.int h,.str (gi b)]) (_:mL C CS CW CB U H x c f a d i) (_:jS h) (_:↑b<=200) (_:↑a<=90000) (_:d.1<=900) (_:c.getLast?=⇑g) (_:↑g<=50) (_:↑c<=900) (_:↑f<=900) (_ :
 ∀ (j:Y1) (q:Addr) (e:Hp),mL C CS CW CB j e x (c++[g]) (f++[(jz.xg h b).line]) (a++nP h b) (d.1+1,d.2) i->rT U j H e->e q=⇑(.tup [.int (↑a:Nat),.int (↑(a++nP h b):Nat)])->Q ↥q e)
theorem yD:‹(4,69,["c","q","text"],(Va eK cH cT dB))›:=λD=>by
 specialize eZ ["c","q","text","stretch"] D.Yx.F;let⟨am,x,c,J,aC,s,aH,h,d,f,rfl,⟨S,p,q,l,M,v,N,w,m,O,R,T,U,sg,ow,pw,db,tb,g,LU⟩,fh,lc,li,ln,hl,l1,l2,l3,k⟩:=h;let⟨L,W,ae,ag,lG,dj,B,C,u⟩:=id LU;exists _,#v[aY 3 (cL (cG (pv 0) rfl) D.iy D.mn (Er D) hr bH #[1,2]),aT (cL (pv 0) D.aM D.Nl (ig D) hr bH #[c9 #[bw,1,2],bM ah]),aK (pv 3)]
 rfl'
 refine⟨Y,x,eK,q,_,↥l,1,L.hx,D.aM.cl,D.sZ,1,l,U,Y,W.hx,1,Y,Y,p,l,U,sg,ow,pw,s.1,aC,h,d,1,W,by lia,by lia,λX ai i W1 hq ab n tp=>?_⟩
 let F:∀ a b,H a=⇑b->¬ p a->¬ X a:=λa b e r z=>by
  rcases ab a z with y|y
  ·exact r y
  ·rw[e]at y;cases y
 let ak:∀ a b,H a=⇑b->(S a\/a=m\/a=x)->¬ p a:=λa b e z y=>by
  let⟨G,j,o⟩:=dj a y;rcases z with z|z|z
  ·exact G z
  ·exact j z
  ·exact o z
 let L1:ie eK cH S i x q l M v N w m O R T (qW c) g J:=L.fr (λa b e z=>n _ _ e (ak a b e z)) tp;let⟨as,hR,_⟩:=id ag
 let AO:om eK cH cT dB (λa=>S a\/X a\/a=m\/a=x\/a=v\/a=tb\/a=w\/a=s.2.t) S X i x q l M v N w m O R T U sg ow pw db tb c g J (aC++nP h d) (s.1+1,s.2) aH:=by
  refine⟨L1,W1,n _ _ ae B.2.1,ag.two (λxs e=>n _ _ e C.2.1) tp,⟨lG.1,lG.2.mv λa b e G o _ _ _=>⟨n _ _ e o,G,F _ _ e o⟩⟩,λa z=>?_,⟨B.1,F _ _ ae B.2.1,B.2.2⟩,⟨C.1,F _ _ hR C.2.1,C.2.2⟩,λa=>Iff.rfl⟩;rcases ab a z with y|y
  ·exact dj a y
  ·refine⟨λj=>?_,λj=>?_,λj=>?_⟩
   ·let⟨b,e⟩:=L.W.al a j;rw[y]at e;cases e
   ·rw[j,L.hb]at y;cases y
   ·rw[j,L.hx]at y;cases y
 refine⟨Y,x,q,Y,L1.hx,1,Y,Y,Qf,λt B=>⟨iz,λj s=>?_⟩⟩;let o:aJ i (aO (aO i t (.tup [.str "pour",.int h,.str (gi d)])) j (.lst [])):=(ao B _).trans (ao s _);let Js:(aO (aO i t (.tup [.str "pour",.int h,.str (gi d)])) j (.lst [])) t=⇑(.tup [.str "pour",.int h,.str (gi d)]):=ao s _ _ _ af;let Iz:(aO (aO i t (.tup [.str "pour",.int h,.str (gi d)])) j (.lst [])) j=⇑(.lst (([]:WF).map V.ref)):=af
 let nc:j≠m:=λz=>by
  have:=ao B (.tup [.str "pour",.int h,.str (gi d)]) _ _ L1.hb;rw[← z,s]at this;cases this
 generalize aO (aO i t (.tup [.str "pour",.int h,.str (gi d)])) j (.lst [])=i at o Js Iz;let i:↑(qW c)=↑c:=b8 _;let rZ:=AO.same o;refine⟨S,x,q,l,M,v,N,w,m,O,R,T,qW c,g,J,t,j,.xg h d,[],[],f.map aL,1,rZ.L,Js,⟨fh,lc⟩,Iz,nc,.nil,(λ_ z=>by cases z),ly hl,(λi d e=>by cases e),(by show 0<=200;decide),by rw[b8];lia,by lia,by lia,λd H3 L3 SO=>?_⟩
 let ep:qW c++[oh (f.map aL) []]=qW (c++[f]):=by
  show _=(c++[f]).map _;rw[gm];rfl
 let d:g++List.replicate (↑(oh (f.map aL) [])-↑(f.map aL)) ((↑(qW c):Nat):Int)=g:=by
  show g++List.replicate (↑(f.map aL)-↑(f.map aL)) _=g;rw[Nat.sub_self];exact ir _
 rw[ep,d]at L3;let⟨c,d,I⟩:=rZ.vV L3 SO;refine⟨Y,k c ai H3 d ⟨λa z=>?_,λa b e r=>?_,λa xs e=>I.2.2 _ _ (o _ _ (tp _ _ e))⟩ (I.2.2 _ _ (o _ _ hq))⟩
 ·rcases I.1 a z with y|y
  ·rcases y with y|y|y
   ·exact .inl ((u a).mpr (.inl y))
   ·exact (ab a y).imp (λbf=>(u a).mpr (.inr (.inl bf))) id
   ·exact .inl ((u a).mpr (.inr (.inr y)))
  ·let G:=aU o y
   cases e:H a with
   | none=>exact .inr rfl
   | some b =>
    by_cases c:p a
    ·exact .inl ((u a).mpr (.inr (.inl c)))
    ·rw[n _ _ e c]at G;cases G
 ·let G:¬ p a:=λz=>r ((u a).mpr (.inr (.inl z)));refine I.2.1 a b (o _ _ (n _ _ e G)) λz=>?_;rcases z with z|z|z
  ·exact r ((u a).mpr (.inl z))
  ·exact F _ _ e G z
  ·exact r ((u a).mpr (.inr (.inr z)))
class inductive G3(C CS CW CB:Addr)
 | mk (U:Y1) (x:Addr) (b:gT) (c:gS) (a:fY) (d:Nat × Kd) (e:Row) (_:vs=[↥x]) (_:mL C CS CW CB U H x b c a d e) (_:Q (.int (↑a:Nat)) H)
class inductive G4(C CS CW CB:Addr)
 | mk (U:Y1) (x r:Addr) (d:gT) (e:gS) (b:fY) (f:Nat × Kd) (g a:Row) (_:vs=[↥x,↥r]) (_:mL C CS CW CB U H x d e b f g) (_:bU H r a) (_:↑a<=1000) (_:oj ↑b a=true) (_:∀ c,aJ H c->Q .gc c)
theorem AQ:‹(2,67,["c"],(G3 eK cH cT dB))›:=λD=>by
 specialize eZ ["c"] D.vb.F;let⟨U,x,i,j,aC,l,m,rfl,⟨S,n,d,b,o,p,q,r,s,t,u,v,c,e,f,g,w,y,z,a⟩,k⟩:=h;exists _,#v[aK (fD (cG (pv 0) rfl) D.iy D.Nk (jT D) hr bH)]
 rfl'
 exact⟨Y,x,eK,d,_,↥b,1,a.L.hx,D.aM.cl,D.sZ,1,b,c,Y,a.W.hx,1,b,c,e,f,g,aC,1,a.W.hx,a.W.hs,k⟩
theorem jY:‹(3,68,["c","j"],(G4 eK cH cT dB))›:=λD=>by
 let g:aZ cX bf bV cW cV cQ 2 _ _ ["c"] (G3 eK cH cT dB):=AQ D;specialize eZ ["c","j"] D.Yw.F;let⟨U,x,r,s,t,d,e,u,f,rfl,g,i,j,k,l⟩:=h;let⟨S,m,n,a,s,t,u,v,w,y,z,B,c,o,p,q,C,F,G,b⟩:=id g;exists _,#v[bN (iY (jq (cL (cG (pv 0) rfl) D.iy D.mo (BF D) hr bH #[1]))) #v[iH] bu]
 rfl'
 refine⟨Y,x,eK,n,_,↥a,1,b.L.hx,D.aM.cl,D.sZ,1,a,c,Y,b.W.hx,1,Y,m,a,c,o,p,q,r,e.1,d,f,1,b.W,i,j,λa b=>⟨Y,?_⟩⟩;rw[k];exact fT (l a b)
abbrev hE:List Nat:=(Str.ofString "put").cps.toList
class inductive Vc(C CS CW CB:Addr)
 | mk (U:Y1) (x r:Addr) (c:gT) (f:gS) (d:fY) (i:Nat × Kd) (j b:Row) (s p:Int) (a:dD) (_:vs=[↥x,.int s,.int p,↥r]) (_:mL C CS CW CB U H x c f d i j) (_:bU H r b) (_:JV b) (_:↑d<=100000) (_:c.getLast?=⇑a) (_:↑a<=50) (_:↑c<=900) (_:↑f<=900) (_:v8 s) (_:v8 p) (_:qV ↑a s) (_:oj ↑d b=true) (_:(∃ e,Seen a e/\(0<=p/\p<=↑(e s))/\((∀ g,a[s.toNat]?=⇑g->(∃ l,nB (iW a s.toNat (gy e p g (d9 (dz (cJ b))))) l)/\
  ∀ (k:Y1) (h:Hp),mL C CS CW CB k h x (c++[iW a s.toNat (gy e p g (d9 (dz (cJ b))))]) (f++[(jz.oQ hE [s,p] b).line]) d i j->rT U k H h->Q .gc h))))
def Dl(a:Wp):jm (cy a)=(↑a:Int):=by rw[← rE _ (jf _),dm]
theorem rV{n:Nat}{a:Row}(h:oj n a=true):∀ p∈a,0<=p.1/\p.1<p.2/\p.2<=n:=λp b=>by
 let z:=List.all_eq_true.mp h p b;unfold Q0 at z;simpa [and_assoc] using z
def v8.big{s:Int}(h:v8 s):s<10^60:=by
 let⟨_,a⟩:=h;lia
theorem AR:‹(6,70,["c","g","C","j"],(Vc eK cH cT dB))›:=λD=>by
 specialize eZ ["c","g","C","j","l"] D.mB.F;let⟨ak,x,r,o,q,aC,nW,aH,f,s,p,g,rfl,C,u,j,c,v,w,y,l3,fs,fp,a,N,m⟩:=h;let⟨S,c,d,O,k,R,T,U,z,B,W,X,e,sg,ow,pw,db,tb,ab,b⟩:=id C;exists _,#v[aT (aF D.ZL (iD D) hr #[cL (pv 0) D.aM D.Qk (iX D) hr bH #[1],2,2]),aT (cL (pv 0) D.aM D.Yw (jY D) hr bH #[3]),aY 4 (aF D.Uq (pG D) hr #[fD (cG (pv 0) rfl) D.dF D.Ea (gr D) hr bH,1,2,aF D.Gs (nj D) hr #[3]]),aT (cL (pv 0) D.aM D.Gv (eY D) hr bH #[c9 #[bw,1,2,3],1,4])]
 rfl'
 exists Y,x,d,Y,b.L.hx,1,Y,S,x,d,O,k,R,T,U,z,B,W,X,o,ab,q,g,s,1,b.L,v,w,y,a;let⟨e,c,l,k6⟩:=m;let m:↑(e s)<=10000:=c.ln s a.1 a.2;let m:=ku (e s);refine⟨e,c,λm H1 ho s1 fo=>?_⟩;let am:TQ p p (jm (cy (e s))):=by rw[Dl];exact⟨l.1,Int.le_refl _,l.2⟩
 refine⟨Y,Y,m,cy (e s),p,p,1,ho,by lia,am,λm s2=>?_⟩;let m:=s1.trans s2;let rZ:=b.same m;let LR:=u.same m;refine⟨Y,x,d,Y,rZ.L.hx,1,Y,ak,x,r,o,q,aC,nW,aH,f,1,C.same m,LR,by have:=j.1;lia,N,λH3 C=>?_⟩;let n:=m.trans C;let m:=b.same n;let Iv:=u.same n;let hp:=rV N;let sl:s.toNat<↑g:=by have:=a.1;have:=a.2;lia
 obtain⟨C,N⟩:∃ C,g[s.toNat]?=⇑C:=⟨_,nT sl⟩;let⟨⟨fB,an⟩,k7⟩:=k6 _ N;refine⟨Y,x,eK,d,_,↥k,1,m.L.hx,D.aM.cl,D.gF,1,k,B,Y,m.L.W.hx,1,m.L.rws v w y λak H4 m F=>?_⟩;let hR:=m;let m:=Iv.same F;refine⟨Y,Y,Y,r,f,1,m,by have:=j.1;lia,λoi m am G aq=>?_⟩;let nn:lT f:=λm Oi=>⟨(hp m Oi).1,by have:=(hp m Oi).2.1;lia⟩;refine⟨ak,oi,g,s,p,_,e,1,⟨hR.same G,by lia,c.es,c.sd,c.rk,c.ss,c.ln⟩,a.1,a.2,am,vM (oJ nn),?_,l,λC q2 I pY fZ s6 Q9=>?_⟩
 ·unfold dz;rw[b8];have:=iT f;have:=j.1;lia
 rw[N]at pY;cases pY;let ae:aJ H I:=n.trans (F.trans (G.trans s6));let WK:=b.same ae
 let ap:q2≠z:=λi=>by
  let J:=(b.same (n.trans (F.trans G))).L.hb;rw[← i,Q9]at J;cases J
 refine⟨Y,x,d,Y,WK.L.hx,1,Y,Y,Y,D7,λt c=>?_⟩;let L:=ao c (.tup [.str "put",.int s,.int p,↥r]);let ag:(aO I t (.tup [.str "put",.int s,.int p,↥r])) t=⇑(.tup [.str "put",.int s,.int p,↥r]):=af;generalize aO I t (.tup [.str "put",.int s,.int p,↥r])=c at L ag;let M:=ae.trans L;let ai:=b.same M;let b:((s.toNat:Nat):Int)=s:=by have:=a.1;lia
 refine⟨Y,Y,S,x,d,O,k,R,T,U,z,B,W,X,o,ab,q,t,q2,.oQ hE [s,p] f,s.toNat,_,g,fB,by rw[b];rfl,ai.L,⟨r,by rw[ag,pC];rfl,u.same M⟩,⟨(by show jR YU hE=some 2;decide +kernel),?_,j⟩,fZ.same L,ap,v,by have:=a.2;have:=a.1;lia,w,y,l3,an,λb H8 L8 TJ=>?_⟩
 ·intro J hy;let b1:=a.1;let b2:=l.1;rcases List.mem_cons.mp hy with i|i
  ·rw[i];exact⟨b1,fs.big⟩
  ·rw[List.mem_singleton.mp i];exact⟨b2,fp.big⟩
 ·let⟨a,b,c⟩:=ai.vV L8 TJ;exact k7 a H8 b (c.pre M)
theorem We.lC{C:Addr}{a:Y1}{H b:Hp}{x d s p l:Addr}{n:Nat}{c:fY}{g:List (Str × V)}(h:We C a H x d s o p n c)(i:H l=⇑(.ins r t g))(j:¬ a l)(k:cD l H b):We C a b x d s o p n c :=
 h.fr (λf m e z=>k f m e (λq=>j (by rw[← q];exact z))) (λf f e=>k _ _ e (cS e i))
theorem bU.lC{H a:Hp}{r l:Addr}{b:Row}{d:List (Str × V)}(h:bU H r b)(c:H l=⇑(.ins g i d))(k:cD l H a):bU a r b :=
 h.two (λf e=>k _ _ e (cS e c)) (λj f e=>k _ _ e (cS e c))
def mO{H:Hp}{b a:Addr}{o:HO}(e:(aO (aO H b (.own c)) c o) a=none):H a=none:=by
 by_cases d:a=c
 ·rw[d,af]at e;cases e
 rw[aN d]at e;by_cases f:a=b
 ·rw[f,af]at e;cases e
 rw[aN f]at e;exact e
class inductive Dm(C CS CW CB CD:Addr)
 | mk (x d:Addr) (_:vs=[↥x]) (_:H x=⇑(.ins C d [])) (_: ∀ (U:Y1) (t:Addr) (b:Hp),mL C CS CW CB U b x [[]] [] [] (0,⟨CD,t,[]⟩) []->(∀ a,U a->a=x\/H a=none)->cD x H b->Q .gc b)
theorem r9:‹(3,61,["c"],(Dm eK cH cT dB jW))›:=λD=>by
 specialize eZ ["c"] D.mu.F;let⟨x,d,rfl,hx,ar⟩:=h;refine⟨_,#v[iJ (pv 0) (oB D.iy.ZI (xq D) (hr.mono (by decide)) rfl D.iy.m D.mm.b .nil bH) rfl,iJ (pv 0) (oB D.dF.ZI (vU D) (hr.mono (by decide)) rfl D.dF.m D.l5.b .nil bH) rfl,iJ (pv 0) (oB D.jw.ZI (vI D) (hr.mono (by decide)) rfl D.jw.m D.kt.b .nil bH) rfl,iJ (pv 0) (oB D.C3.ZI (xj D) (hr.mono (by decide)) rfl D.C3.m D.md.b .nil bH) rfl,iJ (pv 0) (oB D.pT.ZI (xm D) (hr.mono (by decide)) rfl D.pT.m D.me.b .nil bH) rfl,iJ (pv 0) (bM ah) rfl],?_⟩
 rfl'
 intro b dw ag av _;refine⟨b,dw,1,af,λO R S T V1 k1 aw ax ay=>⟨1,?_⟩⟩;let s1:=mK ag av k1
 let fW:∀ a,(a=b\/a=O\/a=R\/a=S)->H a=none:=λa e=>by
  rcases e with rfl|rfl|rfl|rfl
  ·exact ag
  ·exact mO aw
  ·exact mO ax
  ·exact mO ay
 let r:¬ (x=b\/x=O\/x=R\/x=S):=λe=>by
  have:=fW x e;rw[hx]at this;cases this
 refine⟨Y,x,eK,d,Y,s1 _ _ hx,D.aM.cl,D.sZ,by decide,?_⟩;let q2:cD x H (aO T x (.ins eK d (_L2.fk "E" ↥b []))):=cD.trans (_gE.aJ.keep s1) (aI x _ _);let x2:(aO T x (.ins eK d (_L2.fk "E" ↥b []))) x=⇑(.ins eK d [("E",↥b)]):=af;let ai:cD x T (aO T x (.ins eK d (_L2.fk "E" ↥b []))):=aI x _ _;generalize aO T x (.ins eK d (_L2.fk "E" ↥b []))=H2 at q2 x2 ai;let V2:=V1.lC (s1 _ _ hx) r ai;intro c U YY T _;refine⟨c,U,1,af,λs t z H3 W3 k3 aA aH fz=>⟨1,?_⟩⟩;let s3:=mK YY T k3
 let up:∀ a,(aO (aO H2 U (.own c)) c (.ins cH U [])) a=none->H2 a=none:=λa e=>by
  by_cases f:a=c
  ·rw[f,af]at e;cases e
  rw[aN f]at e;by_cases g:a=U
  ·rw[g,af]at e;cases e
  rw[aN g]at e;exact e
 let fS:∀ a,(a=c\/a=s\/a=t\/a=z)->H2 a=none:=λa e=>by
  rcases e with rfl|rfl|rfl|rfl
  ·exact YY
  ·exact up _ aA
  ·exact up _ aH
  ·exact up _ fz
 let u:¬ (x=c\/x=s\/x=t\/x=z):=λe=>by
  have:=fS x e;rw[x2]at this;cases this
 let x3:=s3 _ _ x2;let V3:=V2.same s3;refine⟨Y,x,eK,d,Y,x3,D.aM.cl,D.gF,(by show 1<1000;decide),?_⟩;let k4:cD x H3 (aO H3 x (.ins eK d (_L2.fk "B" ↥c [("E",↥b)]))):=aI x _ _;let x4:(aO H3 x (.ins eK d (_L2.fk "B" ↥c [("E",↥b)]))) x=⇑(.ins eK d [("E",↥b),("B",↥c)]):=af;generalize aO H3 x (.ins eK d (_L2.fk "B" ↥c [("E",↥b)]))=T at k4 x4;let W4:=W3.lC x3 u k4;let V4:=V3.lC x3 r k4;let q4:cD x H T:=(q2.trans (_gE.aJ.keep s3)).trans k4;intro f v W T _;refine⟨f,v,1,af,λl H5 B5 R5 k5 ag=>⟨1,?_⟩⟩;let s5:=mK W T k5;let Y8:=mO ag;let x5:=s5 _ _ x4;let W5:=W4.same s5;let V5:=V4.same s5;let X:f≠x:=(aB x4 W).symm;refine⟨Y,x,eK,d,Y,x5,D.aM.cl,D.qQ,(by show 2<1000;decide),?_⟩;let C:cD x H5 (aO H5 x (.ins eK d (_L2.fk "H" ↥f [("E",↥b),("B",↥c)]))):=aI x _ _;let x6:(aO H5 x (.ins eK d (_L2.fk "H" ↥f [("E",↥b),("B",↥c)]))) x=⇑(.ins eK d [("E",↥b),("B",↥c),("H",↥f)]):=af;generalize aO H5 x (.ins eK d (_L2.fk "H" ↥f [("E",↥b),("B",↥c)]))=T at C x6;let W6:=W5.lC x5 u C;let V6:=V5.lC x5 r C;let B6:Bl dB T f v l:=C _ _ B5 X;let R6:=R5.lC x5 C;let q6:cD x H T:=(q4.trans (_gE.aJ.keep s5)).trans C;intro j C T ag _;refine⟨j,C,1,af,λai H7 _ C=>⟨1,?_⟩⟩;let F:=mK T ag C;let x7:=F _ _ x6;let W7:=W6.same F;let V7:=V6.same F;let B7:Bl dB H7 f v l:=F _ _ B6;let R7:=R6.same F;refine⟨Y,x,eK,d,Y,x7,D.aM.cl,D.DO,(by show 3<1000;decide),?_⟩;let G:cD x H7 (aO H7 x (.ins eK d (_L2.fk "R" ↥j [("E",↥b),("B",↥c),("H",↥f)]))):=aI x _ _;let x8:(aO H7 x (.ins eK d (_L2.fk "R" ↥j [("E",↥b),("B",↥c),("H",↥f)]))) x=⇑(.ins eK d [("E",↥b),("B",↥c),("H",↥f),("R",↥j)]):=af;generalize aO H7 x (.ins eK d (_L2.fk "R" ↥j [("E",↥b),("B",↥c),("H",↥f)]))=H8 at G x8;let W8:=W7.lC x7 u G;let V8:=V7.lC x7 r G;let B8:Bl dB H8 f v l:=G _ _ B7 X;let C:=R7.lC x7 G;let q8:cD x H H8:=(q6.trans (_gE.aJ.keep F)).trans G;intro m dd I F _;refine⟨m,dd,1,af,λt9 H9 D9 G T=>⟨1,?_⟩⟩;let J:=mK I F G;let g9:=mO T;let x9:=J _ _ x8;let W9:=W8.same J;let V9:=V8.same J;let B9:Bl dB H9 f v l:=J _ _ B8;let R9:=C.same J;refine⟨Y,x,eK,d,Y,x9,D.aM.cl,D.zP,(by show 4<1000;decide),?_⟩;let o:cD x H9 (aO H9 x (.ins eK d (_L2.fk "dues" ↥m [("E",↥b),("B",↥c),("H",↥f),("R",↥j)]))):=aI x _ _;let L:(aO H9 x (.ins eK d (_L2.fk "dues" ↥m [("E",↥b),("B",↥c),("H",↥f),("R",↥j)]))) x=⇑(.ins eK d [("E",↥b),("B",↥c),("H",↥f),("R",↥j),("dues",↥m)]):=af;generalize aO H9 x (.ins eK d (_L2.fk "dues" ↥m [("E",↥b),("B",↥c),("H",↥f),("R",↥j)]))=w at o L;let ak:=W9.lC x9 u o;let am:=V9.lC x9 r o;let ae:Bl dB w f v l:=o _ _ B9 X;let an:=R9.lC x9 o;let Cw:cD x H w:=(q8.trans (_gE.aJ.keep J)).trans o;refine⟨iz,λi n=>⟨Y,x,eK,d,Y,ao n _ _ _ L,D.aM.cl,D.FT,(by show 5<1000;decide),?_⟩⟩;let ap:i≠x:=(aB L n).symm
 let aS:¬ (i=c\/i=s\/i=t\/i=z):=λe=>by
  let⟨p,bf⟩:=ak.al i e;rw[n]at bf;cases bf
 let k:=ao n (.lst []);let B:cD x (aO w i (.lst [])) (aO (aO w i (.lst [])) x (.ins eK d (_L2.fk "book" ↥i [("E",↥b),("B",↥c),("H",↥f),("R",↥j),("dues",↥m)]))):=aI x _ _;let a0:=(ak.same k).lC (k _ _ L) u B;let a1:=(am.same k).lC (k _ _ L) r B;let a2:=B _ _ (k _ _ ae) X;let a3:=(an.same k).lC (k _ _ L) B;let⟨C,F,_⟩:=id R5;let a4:∀ a,(a=c\/a=s\/a=t\/a=z)->a=x\/H a=none:=λa e=>.inr (gW q2 (λg=>by rw[g]at e;exact u e) (fS a e));have M:∀ {a:Addr},H8 a=none->a≠x:=λN e=>by rw[e,x8]at N;cases N
 let ab:Du jW w m dd t9 []:=⟨o _ _ D9.1 (M I),o _ _ D9.2 (M g9)⟩
 let n8:∀ a,H8 a=none->(∃ p,w a=⇑p)->¬ (a=c\/a=s\/a=t\/a=z)/\¬ (a=b\/a=O\/a=R\/a=S)/\a≠i/\a≠f:=λa N ⟨p,e⟩=>by
  refine⟨λy=>?_,λy=>?_,λy=>?_,λy=>?_⟩
  ·let⟨g,q⟩:=W8.al a y;rw[N]at q;cases q
  ·let⟨g,q⟩:=V8.al a y;rw[N]at q;cases q
  ·rw[y,n]at e;cases e
  ·let q:=B8;unfold Bl at q;rw[← y,N]at q;cases q
 refine ar (λa=>(a=c\/a=s\/a=t\/a=z)\/(a=b\/a=O\/a=R\/a=S)\/a=i\/a=x\/a=f\/a=l\/a=m\/a=t9) _ _ ⟨E,d,b,c,f,j,m,i,U,s,t,dw,O,R,S,v,l,[],⟨af,a0,?_,u,aS⟩,a1,a2,a3,?_,?_,?_,?_,λa=>Iff.rfl⟩ ?_ ((Cw.trans (_gE.aJ.keep k)).trans B)
 ·rw[aN ap];exact af
 ·exact⟨⟨.nil,λ_ z=>by cases z⟩,⟨dd,[],⟨B _ _ (k _ _ ab.1) (M I),B _ _ (k _ _ ab.2) (M g9)⟩,nO.nil,λa y=>by
   rcases y with rfl|rfl
   ·exact n8 _ I ⟨_,ab.1⟩
   ·exact n8 _ g9 ⟨_,ab.2⟩⟩⟩
 ·intro a g;let⟨p,aq⟩:=V2.al a g;refine⟨λq=>?_,λy=>?_,λex=>?_⟩
  ·rw[fS a q]at aq;cases aq
  ·let⟨b,bf⟩:=am.al a g;rw[y,n]at bf;cases bf
  ·rw[ex]at g;exact r g
 ·refine⟨λq=>?_,λg=>?_,λy=>?_⟩
  ·let⟨p,bf⟩:=W4.al f q;rw[W]at bf;cases bf
  ·let⟨p,bf⟩:=V4.al f g;rw[W]at bf;cases bf
  ·rw[y]at ae;let aq:w i=⇑_:=ae;rw[n]at aq;cases aq
 ·refine⟨λq=>?_,λg=>?_,λy=>?_⟩
  ·let⟨p,bf⟩:=W4.al l q;rw[Y8]at bf;cases bf
  ·let⟨p,bf⟩:=V4.al l g;rw[Y8]at bf;cases bf
  ·let⟨b,hR,_⟩:=id an;rw[y,n]at hR;cases hR
 ·intro a g;rcases g with g|g|g|g|g|g|g|g
  ·exact a4 a g
  ·exact .inr (fW a g)
  ·rw[g];exact .inr (gW Cw ap n)
  ·exact .inl g
  ·rw[g];exact .inr (gW q4 X W)
  ·by_cases ex:a=x
   ·exact .inl ex
   ·rw[g]at ex ⊢;exact .inr (gW q4 ex Y8)
  ·rw[g];exact .inr (gW q8 (M I) I)
  ·rw[g];exact .inr (gW q8 (M g9) g9)
abbrev oy:List Nat:=(Str.ofString "cut").cps.toList
abbrev oC:List Nat:=(Str.ofString "quote").cps.toList
class inductive Ve(C CS CW CB:Addr)
 | mk (U:Y1) (x:Addr) (d:gT) (f:gS) (i:fY) (j:Nat × Kd) (k:Row) (s a b:Int) (c:dD) (_:vs=[↥x,.int s,.int a,.int b]) (_:mL C CS CW CB U H x d f i j k) (_:d.getLast?=⇑c) (_:↑c<=50) (_:↑d<=900) (_:↑f<=900) (_:v8 s) (_:v8 a) (_:v8 b)
  (_:qV ↑c s) (_:∃ e,Seen c e/\TQ a b ↑(e s)/\(∀ g,c[s.toNat]?=⇑g->(∃ m,nB (iW c s.toNat (bZ e a b g)) m)/\
  ∀ (l:Y1) (h:Hp),mL C CS CW CB l h x (d++[iW c s.toNat (bZ e a b g)]) (f++[(jz.plain oy [s,a,b]).line]) i j k->rT U l H h->Q .gc h))
class inductive NS(C CS CW CB:Addr)
 | mk (U:Y1) (x:Addr) (e:gT) (f:gS) (i:fY) (j:Nat × Kd) (k:Row) (t p s a b:Int) (c:dD) (_:vs=[↥x,.int t,.int p,.int s,.int a,.int b]) (_:mL C CS CW CB U H x e f i j k) (_:e.getLast?=⇑c) (_:↑c<=50) (_:↑e<=900) (_:↑f<=900) (_:v8 t) (_:v8 p) (_:v8 s) (_:v8 a) (_:v8 b)
  (_:qV ↑c t) (_:qV ↑c s) (_:(∃ d,Seen c d/\TQ a b ↑(d s)/\((0<=p/\p<=↑(d t))/\(∀ g,c[t.toNat]?=⇑g->(∃ m,nB (iW c t.toNat (gy d p g (((d s).take b.toNat).drop a.toNat))) m)/\
  ∀ (l:Y1) (h:Hp),mL C CS CW CB l h x (e++[iW c t.toNat (gy d p g (((d s).take b.toNat).drop a.toNat))]) (f++[(jz.plain oC [t,p,s,a,b]).line]) i j k->rT U l H h->Q .gc h))))
theorem AS:‹(6,72,["c","g","i","o"],(Ve eK cH cT dB))›:=λD=>by
 specialize eZ ["c","g","i","o","l"] D.mI.F;let⟨U,x,z,I,J,L,M,s,q,r,f,rfl,c,g,k,l,t,u,v,w,b,y⟩:=h;let⟨S,z,i,I,d,J,L,M,N,m,O,R,T,U,W,X,db,tb,ab,a⟩:=id c;exists _,#v[aT (cL (cG (pv 0) rfl) D.dF D.Gu (dJ D) hr bH #[1]),aY 4 (aF D.lx (El D) hr #[fD (cG (pv 0) rfl) D.dF D.Ea (gr D) hr bH,1,2,3]),aT (cL (pv 0) D.aM D.Gv (eY D) hr bH #[c9 #[bw,1,2,3],1,4])]
 rfl'
 refine⟨Y,x,eK,i,_,↥d,1,a.L.hx,D.aM.cl,D.gF,1,d,m,Y,a.L.W.hx,1,Y,a.L.Y5 g b ?_⟩;let⟨z,c,e,B⟩:=y;refine⟨Y,x,eK,i,_,↥d,1,a.L.hx,D.aM.cl,D.gF,1,d,m,Y,a.L.W.hx,1,a.L.rws g k l λd y m n=>?_⟩;let y:s.toNat<↑f:=by have:=b.1;have:=b.2;lia
 obtain⟨j,o⟩:∃ j,f[s.toNat]?=⇑j:=⟨_,nT y⟩;refine⟨Y,Y,Y,d,f,s,q,r,z,1,⟨m,by lia,c.es,c.sd,c.rk,c.ss,c.ln⟩,b.1,b.2,e,λc d f p C F G=>?_⟩;rw[o]at p;cases p;let⟨f,m⟩:=B j o;let c:=n.trans F;let d:=a.same c;exact⟨Y,x,i,Y,d.L.hx,1,Y,Y,Y,D7,λi d=>⟨Y,Y,a.chg (c.trans (ao d _)) af (pC _).symm (by show jR QI oy=some 3;decide +kernel) (IA b.1 u.big (IA e.1 v.big (IA (by have:=e.1;have:=e.2.1;lia) w.big el))) (C.same (ao d _)) (aU n G) g k l t b f m⟩⟩
theorem xx:‹(6,73,["c","7","C","8","i","o"],(NS eK cH cT dB))›:=λD=>by
 specialize eZ ["c","7","C","8","i","o","j","l"] D.mM.F;let⟨ag,x,a,b,aC,nW,aH,t,p,s,c,d,k,rfl,r,l,n,o,F,G,I,J,L,M,f,g,w⟩:=h;let⟨S,SW,i,N,j,O,R,T,U,q,W,X,dw,sg,ow,pw,db,tb,ab,e⟩:=id r;exists _,#v[aT (cL (cG (pv 0) rfl) D.dF D.Gu (dJ D) hr bH #[1]),aY 6 (aF D.kh (Uu D) hr #[cL (pv 0) D.aM D.Qk (iX D) hr bH #[3],4,5]),aY 7 (aF D.Uq (pG D) hr #[fD (cG (pv 0) rfl) D.dF D.Ea (gr D) hr bH,1,2,aF D.Gs (nj D) hr #[6]]),aT (cL (pv 0) D.aM D.Gv (eY D) hr bH #[c9 #[bw,1,2,3,4,5],1,7])]
 rfl'
 refine⟨Y,x,eK,i,_,↥j,1,e.L.hx,D.aM.cl,D.gF,1,j,q,Y,e.L.W.hx,1,Y,e.L.Y5 l f ?_⟩;exists Y,x,i,Y,e.L.hx,1,Y,S,x,i,N,j,O,R,T,U,q,W,X,a,ab,b,k,s,1,e.L,l,n,o,g;let⟨a,b,m,v,k8⟩:=w;refine⟨a,b,λr O w N R=>?_⟩;let O:↑(a s)<=10000:=b.ln s g.1 g.2;let O:=ku (a s);let tt:jm (cy (a s))=↑(a s):=Dl _;refine⟨Y,Y,r,cy (a s),c,d,1,w,by lia,by rw[tt];exact m,λO w R r S=>?_⟩;let w:=N.trans r;let r:=e.same w;refine⟨Y,x,eK,i,_,↥j,1,r.L.hx,D.aM.cl,D.gF,1,j,q,Y,r.L.W.hx,1,r.L.rws l n o λq r N j=>?_⟩;let S:=w.trans j;let r:t.toNat<↑k:=by have:=f.1;have:=f.2;lia
 obtain⟨u,y⟩:∃ u,k[t.toNat]?=⇑u:=⟨_,nT r⟩;let r:∀ {w:Row},jK w->lT w:=λh p w=>⟨(h p w).1,by have:=(h p w).2;lia⟩;have T:lT (cy (a s)):=r (CU (oO b.sd b.rk b.ss s g.1 g.2));have w:lT (cJ (lF c d 0 (cy (a s)))):=r (oJ (Ak c d _ 0 T))
 let r:↑(cJ (lF c d 0 (cy (a s))))<=10000:=by
  have:=rQ c d (cy (a s));rw[yU]at this;lia
 let ae:d9 (dz (cJ (cJ (lF c d 0 (cy (a s))))))=((a s).take d.toNat).drop c.toNat:=by
  rw[oN,kM _ λq r=>(w q r).2,pB _ _ _ (jf _),dm]
 refine⟨Y,Y,Y,O,Y,R.same j,by lia,λr R O j T=>?_⟩;let z:=S.trans j;refine⟨q,r,k,t,p,_,a,1,⟨N.same j,by lia,b.es,b.sd,b.rk,b.ss,b.ln⟩,f.1,f.2,O,vM (oJ w),?_,v,λb j k B C s5 Q9=>?_⟩
 ·rw[yU];have:=iT (cJ (lF c d 0 (cy (a s))));lia
 rw[y]at B;cases B;rw[ae]at C;let⟨B,c⟩:=k8 u y;let a:=z.trans s5;let b:=e.same a;exact⟨Y,x,i,Y,b.L.hx,1,Y,Y,Y,Y,Y,j9,λd b=>⟨Y,Y,e.chg (a.trans (ao b _)) af (pC _).symm (by show jR QI oC=some 5;decide +kernel) (IA f.1 G.big (IA v.1 I.big (IA g.1 J.big (IA m.1 L.big (IA (by have:=m.1;have:=m.2.1;lia) M.big el))))) (C.same (ao b _)) (aU z Q9) l n o F f B c⟩⟩
abbrev oD:List Nat:=(Str.ofString "window").cps.toList
class inductive Rg(C CS CW CB:Addr)
 | mk (U:Y1) (x:Addr) (b:gT) (d:gS) (g:fY) (h:Nat × Kd) (i:Row) (t p s:Int) (a:dD) (_:vs=[↥x,.int t,.int p,.int s]) (_:mL C CS CW CB U H x b d g h i) (_:b.getLast?=⇑a) (_:↑a<=50) (_:↑b<=900) (_:↑d<=900) (_:v8 t) (_:v8 p) (_:v8 s)
  (_:qV ↑a t) (_:qV ↑a s) (_:(∃ c,Seen a c/\(0<=p/\p<=↑(c t))/\(∀ e,a[t.toNat]?=⇑e->(∃ k,nB (iW a t.toNat (gy c p e [-1-s])) k)/\
  ∀ (j:Y1) (f:Hp),mL C CS CW CB j f x (b++[iW a t.toNat (gy c p e [-1-s])]) (d++[(jz.plain oD [t,p,s]).line]) g h i->rT U j H f->Q .gc f)))
theorem vW:‹(6,75,["c","7","C","8"],(Rg eK cH cT dB))›:=λD=>by
 specialize eZ ["c","7","C","8","l"] D.mN.F;let⟨ab,x,pe,aA,aC,nW,aH,t,I,s,j,rfl,J,f,q,r,L,M,N,O,c,k,R⟩:=h;let⟨ab,SW,g,wl,d,bl,kn,du,bk,l,st,op,dw,sg,ow,pw,db,tb,ae,a⟩:=id J;exists _,#v[aT (cL (cG (pv 0) rfl) D.dF D.Gu (dJ D) hr bH #[1]),aT (cL (cG (pv 0) rfl) D.dF D.Gu (dJ D) hr bH #[3]),aY 4 (aF D.Uq (pG D) hr #[fD (cG (pv 0) rfl) D.dF D.Ea (gr D) hr bH,1,2,bM #[c9 #[bw,3]]]),aT (cL (pv 0) D.aM D.Gv (eY D) hr bH #[c9 #[bw,1,2,3],1,4])]
 rfl'
 refine⟨Y,x,eK,g,_,↥d,1,a.L.hx,D.aM.cl,D.gF,1,d,l,Y,a.L.W.hx,1,Y,a.L.Y5 f c ?_⟩;refine⟨Y,x,eK,g,_,↥d,1,a.L.hx,D.aM.cl,D.gF,1,d,l,Y,a.L.W.hx,1,Y,a.L.Y5 f k ?_⟩;let⟨S,e,u,T⟩:=R;refine⟨Y,x,eK,g,_,↥d,1,a.L.hx,D.aM.cl,D.gF,1,d,l,Y,a.L.W.hx,1,a.L.rws f q r λU v W X=>?_⟩;let d:t.toNat<↑j:=by have:=c.1;have:=c.2;lia
 obtain⟨m,w⟩:∃ m,j[t.toNat]?=⇑m:=⟨_,nT d⟩;refine⟨Y,Y,Y,mj,λb d=>⟨mh,λo y=>?_⟩⟩;let n:=ao d (.tup [.str "win",.int s]);let z:(aO v b (.tup [.str "win",.int s])) b=⇑(.tup [.str "win",.int s]):=af;generalize aO v b (.tup [.str "win",.int s])=p at n z y;let i:=ao y (.lst [↥b]);let B:(aO p o (.lst [↥b])) o=⇑(.lst [↥b]):=af;show yh _ (aO p o (.lst [↥b])) _ _;generalize aO p o (.lst [↥b])=d at i B;let C:=X.trans (n.trans i);let l:ck d ↥o [.win s]:=⟨o,Y,B,.cons ⟨b,1,i _ _ z⟩ .nil⟩;refine⟨U,o,j,t,I,[.win s],S,1,⟨W.same (n.trans i),by lia,e.es,e.sd,e.rk,e.ss,e.ln⟩,c.1,c.2,l,.one k.1,(by show 1<=10000;decide),u,λb d e F G s5 Q9=>?_⟩;rw[w]at F;cases F;rw[show d9 [aX.win s]=[-1-s] from rfl]at G;let⟨B,e⟩:=T m w;let b:=C.trans s5;let d:=a.same b;exact⟨Y,x,g,Y,d.L.hx,1,Y,Y,Y,D7,λg d=>⟨Y,Y,a.chg (b.trans (ao d _)) af (pC _).symm (by show jR QI oD=some 3;decide +kernel) (IA c.1 M.big (IA u.1 N.big (IA k.1 O.big el))) (G.same (ao d _)) (aU C Q9) f q r L c B e⟩⟩
abbrev oI:List Nat:=(Str.ofString "fix").cps.toList
class inductive wb(C CS CW CB:Addr)
 | mk (U:Y1) (x:Addr) (b:gT) (c:gS) (f:fY) (g:Nat × Kd) (h:Row) (t:Int) (a:dD) (_:vs=[↥x,.int t]) (_:mL C CS CW CB U H x b c f g h) (_:b.getLast?=⇑a) (_:↑a<=50) (_:↑b<=900) (_:↑c<=900) (_:v8 t)
  (_:qV ↑a t) (_:∃ d,Seen a d/\(∃ j,nB (iW a t.toNat (d t)) j)/\
  ∀ (i:Y1) (e:Hp),mL C CS CW CB i e x (b++[iW a t.toNat (d t)]) (c++[(jz.plain oI [t]).line]) f g h->rT U i H e->Q .gc e)
theorem AU:‹(6,76,["c","g"],(wb eK cH cT dB))›:=λD=>by
 specialize eZ ["c","g"] D.mV.F;let⟨U,x,v,w,y,z,C,t,m,rfl,n,e,i,j,o,p,b,q⟩:=h;let⟨S,v,f,w,c,y,z,C,F,k,G,I,J,L,M,N,O,R,T,a⟩:=id n;exists _,#v[aT (cL (cG (pv 0) rfl) D.dF D.Gu (dJ D) hr bH #[1]),aT (cL (pv 0) D.aM D.Gv (eY D) hr bH #[c9 #[bw,1],1,aF D.lM (AE D) hr #[fD (cG (pv 0) rfl) D.dF D.Ea (gr D) hr bH,1]])]
 rfl'
 refine⟨Y,x,eK,f,_,↥c,1,a.L.hx,D.aM.cl,D.gF,1,c,k,Y,a.L.W.hx,1,Y,a.L.Y5 e b ?_⟩;let⟨r,sn,⟨s,B⟩,u⟩:=q;refine⟨Y,x,f,Y,a.L.hx,1,Y,mj,λg n=>?_⟩;let d:=ao n (.tup [.str "fix",.int t]);let l:(aO H g (.tup [.str "fix",.int t])) g=⇑(.tup [.str "fix",.int t]):=af;generalize aO H g (.tup [.str "fix",.int t])=g at d l;let g:=a.same d;refine⟨Y,Y,x,eK,f,_,↥c,1,g.L.hx,D.aM.cl,D.gF,1,c,k,Y,g.L.W.hx,1,g.L.rws e i j λq g f c=>?_⟩;refine⟨Y,q,m,t,r,1,⟨f,by lia,sn.es,sn.sd,sn.rk,sn.ss,sn.ln⟩,b.1,b.2,λg n k f m=>?_⟩;let g:=d.trans (c.trans f);let n:=a.same g;exact a.chg g (f _ _ (c _ _ l)) (pC _).symm (by show jR QI oI=some 1;decide +kernel) (IA b.1 p.big el) k (aU (d.trans c) m) e i j o b ⟨s,B⟩ u
abbrev oL:List Nat:=(Str.ofString "move").cps.toList
class inductive Za(C CS CW CB:Addr)
 | mk (U:Y1) (x:Addr) (e:gT) (g:gS) (j:fY) (k:Nat × Kd) (l:Row) (s a b c:Int) (d:dD) (_:vs=[↥x,.int s,.int a,.int b,.int c]) (_:mL C CS CW CB U H x e g j k l) (_:e.getLast?=⇑d) (_:↑d<=50) (_:↑e<=900) (_:↑g<=900) (_:v8 s) (_:(-100000<a/\a<100000)) (_:(-100000<b/\b<100000)) (_:(-100000<c/\c<100000))
  (_:qV ↑d s) (_:∃ f,Seen d f/\Mv a b c ↑(f s)/\(∀ h,d[s.toNat]?=⇑h->(∃ n,nB (iW d s.toNat (mq f a b c h)) n)/\
  ∀ (m:Y1) (i:Hp),mL C CS CW CB m i x (e++[iW d s.toNat (mq f a b c h)]) (g++[(jz.plain oL [s,a,b,c]).line]) j k l->rT U m H i->Q .gc i))
theorem yE:‹(6,77,["c","g","i","o","to"],(Za eK cH cT dB))›:=λD=>by
 specialize eZ ["c","g","i","o","to","l"] D.mZ.F;let⟨U,x,C,L,M,N,O,s,q,r,t,f,rfl,c,g,k,l,u,v,w,y,z,b,B⟩:=h;let⟨S,C,i,L,e,M,N,O,R,m,T,U,W,X,ow,pw,db,tb,ab,a⟩:=id c;exists _,#v[aT (cL (cG (pv 0) rfl) D.dF D.Gu (dJ D) hr bH #[1]),aY 5 (aF D.lz (AD D) hr #[fD (cG (pv 0) rfl) D.dF D.Ea (gr D) hr bH,1,2,3,4]),aT (cL (pv 0) D.aM D.Gv (eY D) hr bH #[c9 #[bw,1,2,3,4],1,5])]
 rfl'
 refine⟨Y,x,eK,i,_,↥e,1,a.L.hx,D.aM.cl,D.gF,1,e,m,Y,a.L.W.hx,1,Y,a.L.Y5 g b ?_⟩;let⟨C,c,d,F⟩:=B;refine⟨Y,x,eK,i,_,↥e,1,a.L.hx,D.aM.cl,D.gF,1,e,m,Y,a.L.W.hx,1,a.L.rws g k l λe B m n=>?_⟩;let B:s.toNat<↑f:=by have:=b.1;have:=b.2;lia
 obtain⟨j,o⟩:∃ j,f[s.toNat]?=⇑j:=⟨_,nT B⟩;refine⟨Y,Y,Y,Y,e,f,s,q,r,t,C,1,⟨m,by lia,c.es,c.sd,c.rk,c.ss,c.ln⟩,b.1,b.2,d,λc e f p G I J=>?_⟩;rw[o]at p;cases p;let⟨B,f⟩:=F j o;let c:=n.trans I;let e:=a.same c;exact⟨Y,x,i,Y,e.L.hx,1,Y,Y,Y,Y,Ye,λt e=>⟨Y,Y,a.chg (c.trans (ao e _)) af (pC _).symm (by show jR QI oL=some 4;decide +kernel) (IA b.1 v.big (IA d.1.1 (v8.YT w).big (IA (by have:=d.1.1;have:=d.1.2.1;lia) (v8.YT y).big (IA (by have:=d.2;lia) (v8.YT z).big el)))) (G.same (ao e _)) (aU n J) g k l u b B f⟩⟩
class inductive NU(C:Addr)
 | mk (c:Y1) (x d s o p:Addr) (n:Nat) (b:fY) (a:Int) (_:vs=[↥x,.int a]) (_:We C c H x d s o p n b) (_:0<=a) (_:a<(↑b:Nat)) (_:Q .gc H)
class inductive Rh(C:Addr)
 | mk (b:Y1) (x d s o p:Addr) (n:Nat) (a:fY) (j:Nat) (q:Int × Nat) (_:vs=[↥x,.int (j:Nat)]) (_:We C b H x d s o p n a) (_:a[j]?=⇑q) (_:Q (rY q.2) H)
theorem jZ:‹(2,78,["c","t"],(NU cT))›:=λD=>by
 specialize eZ ["c","t"] D.Yy.F;let⟨S,x,d,s0,o,p,n,b,a,rfl,W,c,e,k⟩:=h;exists _,#v[bN (iY (qE gJ kJ az (pv 1) (fD (pv 0) D.iy D.Nk (jT D) hr bH))) #v[iH] bu]
 rfl'
 refine⟨Y,Z,Y,dO (λa=>?_) (λa=>absurd (decide_eq_true c) a)⟩;exists Y,x,d,Y,W.hx,1,x,d,s0,o,p,b,1,W.hx,W.hs,Z,Y;rw[decide_eq_true e];exact fT k
theorem Ey:‹(3,79,["c","t"],(Rh cT))›:=λD=>by
 specialize eZ ["c","t"] D.m3.F;let⟨S,x,d,s0,o,p,n,b,j,q,rfl,W,a,k⟩:=h;let c:=(List.getElem?_eq_some_iff.mp a).1;exists _,#v[aT (cL (pv 0) D.iy D.Yy (jZ D) hr bH #[1]),aK (aR bK (cG (pv 0) rfl) (pv 1))]
 rfl'
 refine⟨Y,x,d,Y,W.hx,1,Y,S,x,d,s0,o,p,n,b,(j:Nat),1,W,by lia,by lia,?_⟩;exact⟨Y,x,cT,d,_,↥s0,1,W.hx,D.iy.cl,D.uc,1,Y,s0,Q,V,bJ.of W.hs,(dh (by unfold QY;rw[kB,a];rfl):_=⇑(rY q.2)),k⟩
def qo(b:fY)(c:Row)(v:Nat)(a:Int):Nat:=if Iq c a=true then v else ((b[a.toNat]?).map Prod.snd).getD 0
class inductive Ri(C CS CW CB:Addr)
 | mk (U:Y1) (x r:Addr) (f:gT) (g:gS) (c:fY) (h:Nat × Kd) (d b:Row) (v:Nat) (_:vs=[↥x,↥r,rY v]) (_:mL C CS CW CB U H x f g c h d) (_:bU H r b) (_:(∀ p∈b,p.1<=p.2)) (_:↑(bg b)<=100000) (_:(∀ a∈bg b,0<=a/\a<(↑c:Nat))) (_:∀ e,aJ H e->Q (.str (gi ((bg b).map (qo c d v)))) e)
class inductive G5(C CS CW CB:Addr)
 | mk (U:Y1) (x:Addr) (d:gT) (h:gS) (e:fY) (i:Nat × Kd) (f:Row) (b:dD) (s:Int) (c:Y2) (_:vs=[↥x,.int s]) (_:mL C CS CW CB U H x d h e i f) (_:d.getLast?=⇑b) (_:↑d<=900) (_:↑b<=50) (_:qV ↑b s) (_:Seen b c) (_:↑(c s)<=200) (_:∀ a∈c s,0<=a/\a<(↑e:Nat)) (_:∀ g,aJ H g->Q (.str (gi ((c s).map (qo e f 35)))) g)
theorem vX:‹(4,81,["c","j","veil"],(Ri eK cH cT dB))›:=λD=>by
 specialize eZ ["c","j","veil"] D.nf.F;let⟨X,x,y,pe,aA,b,I,c,g,v,rfl,z,J,L,ls,M,N⟩:=h;let⟨X,O,s,m,sh,n,kn,du,bk,dS,st,op,t,R,S,T,w,U,ab,W⟩:=id z;refine⟨_,#v[aK (dZ PySem.F.plainAttrs_str PySem.F.slot_str_join PySem.F.type_str_join Aq bw #[gO (N:=["t","c","veil"]) (jJ (c:=b9 lH) (f:=["c","j","veil"]) (d:=[none,some 0,some 2]) rfl rfl rfl nofun nofun rfl nofun rfl nofun) rfl (cC (aF D.gA (vH D) hr #[1])) (λ_ _ _ _ _ _=>(bW 0)) (λ_ _ _ _ _ _=>gU) (λ_ _ _ _ _ _=>(FE (jq (cL (LN (pv 1) rfl) D.jw D.kz (Au D) hr bH #[0])) (pv 2) (cL (LN (pv 1) rfl) D.iy D.m3 (Ey D) hr bH #[0])))])],?_⟩
 rfl'
 refine⟨1,Y,y,g,1,J,L,by lia,λy J z B L=>?_⟩;refine⟨y,1,⟨_,bJ.of z⟩,λk o=>gv (K:=bV) (h:=y) (a:=(bg g).map V.int) (λi l f=>∃ u:Option V,l=[u,⇑↥x,⇑(rY v)]/\f k=⇑(.lst ((((bg g).take i).map (qo b c v)).map rY))/\aJ J f) ⟨none,1,af,ao o _⟩ (by rintro i l f _ ⟨_,_,_,e⟩;exact bJ.of (e _ _ z)) ?_ ?_⟩
 ·rintro i ae l f C ⟨u,rfl,j,e⟩;rw[kB]at C;let⟨a,p,rfl⟩:=Option.map_eq_some_iff.mp C;let y:=(List.getElem?_eq_some_iff.mp p).1;let⟨y,z⟩:=M a (mC p);let d:=W.same (B.trans e);obtain⟨q,F⟩:∃ q,b[a.toNat]?=⇑q:=⟨_,nT ∅⟩
  let G:((((bg g).take (i+1)).map (qo b c v)).map rY)=(((bg g).take i).map (qo b c v)).map rY++[rY (qo b c v a)]:=by
   rw[take_snoc p,gm,gm];rfl
  exists Y,x,eK,s,_,↥n,1,d.L.hx,D.aM.cl,D.qQ,1,n,w,Y,d.B,1,Y,n,w,U,c,a,1,d.B,d.R,d.lG.1
  cases g:Iq c a with
  | true =>
   let r:qo b c v a=v:=if_pos g;refine⟨Y,iK ⟨Y,_,j,aQ (by rw[b8,b8,gI];lia),Y,?_,bQ o e (aI k _ _)⟩⟩;rw[af,G,r]
  | false =>
   let r:qo b c v a=q.2:=by
    unfold qo;rw[if_neg (by rw[g];exact gP),F];rfl
   refine⟨Y,fT ⟨Y,x,eK,s,_,↥m,1,d.L.hx,D.aM.cl,D.sZ,1,m,t,Y,d.W.hx,1,Y,O,m,t,R,S,T,I.1,b,a.toNat,q,by rw[show ((a.toNat:Nat):Int)=a by lia];rfl,d.W,F,?_⟩⟩;refine⟨_,j,aQ (by rw[b8,b8,gI];lia),Y,?_,bQ o e (aI k _ _)⟩;rw[af,G,r]
 ·rintro l f ⟨u,rfl,j,e⟩;rw[b8,gQ]at j;exact⟨k,Y,1,j,by rw[b8];lia,N f (B.trans e)⟩
theorem pZ:‹(6,82,["c","g"],(G5 eK cH cT dB))›:=λD=>by
 let⟨i,j⟩:=D.G.h;specialize eZ ["c","g"] D.Yz.F;let⟨U,x,b,c,k,l,m,n,s,e,rfl,f,o,p,q,r,t,N,u,v⟩:=h;let⟨S,N,d,w,y,z,B,C,F,G,I,J,O,R,T,W,X,tb,L,a⟩:=id f;exists _,#v[aK (cL (pv 0) D.aM D.nf (vX D) hr bH #[cL (pv 0) D.aM D.Qk (iX D) hr bH #[1],Dz (v:=.str "#") rfl j ⟨i,1⟩])]
 rfl'
 refine⟨Y,x,d,Y,a.L.hx,1,Y,x,d,Y,a.L.hx,1,Y,S,x,d,w,y,z,B,C,F,G,I,J,b,L,c,n,s,1,a.L,o,q,p,r,⟨e,t,λo a M g d=>?_⟩⟩;exact⟨U,x,o,b,c,k,l,m,cy (e s),35,by rw[show Str.ofString "#"=⟨(List.toArray [35])⟩ by decide +kernel];rfl,f.same g,M,jf _,by rw[dm];lia,by rw[dm];exact u,by rw[dm];exact λa b=>v a (g.trans b)⟩
class inductive Rj(C:Addr)
 | mk (b:Y1) (x d s o p:Addr) (n:Nat) (a:fY) (j:Nat) (q:Int × Nat) (_:vs=[↥x,.int (j:Nat)]) (_:We C b H x d s o p n a) (_:a[j]?=⇑q) (_:Q (.int q.1) H)
theorem Ez:‹(3,80,["c","t"],(Rj cT))›:=λD=>by
 specialize eZ ["c","t"] D.m4.F;let⟨S,x,d,s0,o,p,n,b,j,q,rfl,W,a,k⟩:=h;let c:=(List.getElem?_eq_some_iff.mp a).1;exists _,#v[aT (cL (pv 0) D.iy D.Yy (jZ D) hr bH #[1]),aK (aR bK (cG (pv 0) rfl) (pv 1))]
 rfl'
 refine⟨Y,x,d,Y,W.hx,1,Y,S,x,d,s0,o,p,n,b,(j:Nat),1,W,by lia,by lia,?_⟩;exact⟨Y,x,cT,d,_,↥o,1,W.hx,D.iy.cl,D.rD,1,Y,o,Q,V,bJ.of W.ho,(dh (by unfold IZ;rw[kB,a];rfl):_=⇑(V.int q.1)),k⟩
def Rk{p:eG × V}{k:eG}{v:V}:∀ {a:List (eG × V)},p∈dX a k v->(p∈a/\p.1≠k)\/(p.1=k/\p.2=v):=by
 intro a h;unfold dX at h;split at h
 ·let⟨q,b,e⟩:=List.mem_map.mp h;split at e
  ·rename_i c;rw[← e];exact .inr ⟨c,1⟩
  ·rename_i c;rw[← e];exact .inl ⟨b,c⟩
 ·rename_i c;rcases List.mem_append.mp h with z|z
  ·exact .inl ⟨z,λe=>c (List.any_eq_true.mpr ⟨p,z,decide_eq_true e⟩)⟩
  ·rw[List.mem_singleton.mp z];exact .inr ⟨V⟩
def Rl{p:eG × V}{k:eG}{v:V}{a:List (eG × V)}(h:p∈a)(n:p.1≠k):p∈dX a k v:=by
 unfold dX;split
 ·exact List.mem_map.mpr ⟨p,h,if_neg n⟩
 ·exact nC _ h
def NV{k:eG}{v:V}{a:List (eG × V)}:(k,v)∈dX a k v:=by
 unfold dX;split
 ·rename_i c;let⟨p,b,e⟩:=List.any_eq_true.mp c;let e:=of_decide_eq_true e;refine List.mem_map.mpr ⟨p,b,?_⟩;show (if p.1=k then (p.1,v) else p)=(k,v);rw[if_pos e,e]
 ·exact mP _ (List.mem_singleton.mpr rfl)
def Zb{b:List (eG × V)}{k:eG}{v:V}(h:(b.map (·.1)).Nodup):((dX b k v).map (·.1)).Nodup:=by
 unfold dX;split
 ·rw[nE,show ((λp:eG × V=>p.1) ∘ λa=>if a.1=k then (a.1,v) else a)=(·.1) from funext λp=>by show (if p.1=k then (p.1,v) else p).1=p.1;split <;> rfl]
  exact h
 ·rename_i c;rw[gm];refine List.nodup_append.mpr ⟨h,by simp,λg a d e f=>?_⟩;let⟨p,g,i⟩:=List.mem_map.mp a;let a:d=k:=List.mem_singleton.mp e;exact c (List.any_eq_true.mpr ⟨p,g,decide_eq_true (i.trans (f.trans a))⟩)
structure Rm(hs:Wp)(kvs:List (eG × V)):Prop where
 nd:(kvs.map (·.1)).Nodup
 val:∀ p∈kvs,∃ i:Int,p=(.inl i,.int (hs.count i:Nat))/\i∈hs
 all:∀ i∈hs,∃ p∈kvs,p.1=.inl i
def Rm.get{c:Wp}{a:List (eG × V)}(d:Rm c a)(h:Int):(cE a (.inl h)=none/\c.count h=0)\/cE a (.inl h)=⇑(.int (c.count h:Nat)):=by
 cases e:cE a (.inl h) with
 | none =>
  refine .inl ⟨1,List.count_eq_zero.mpr λm=>?_⟩;let⟨p,b,f⟩:=d.all h m;unfold cE at e;rw[Option.map_eq_none_iff,List.find?_eq_none]at e;exact e p b (decide_eq_true f)
 | some v =>
  unfold cE at e;let⟨p,b,rfl⟩:=Option.map_eq_some_iff.mp e;let⟨i,rfl,_⟩:=d.val p (List.mem_of_find?_eq_some b);have:=List.find?_some b;have:=Sum.inl.inj (of_decide_eq_true this);rw[this];exact .inr rfl
def Rm.put{a:Wp}{d:List (eG × V)}(c:Rm a d)(h:Int):Rm (a++[h]) (dX d (.inl h) (.int ((a.count h:Nat)+1))):=by
 refine⟨Zb c.nd,λp b=>?_,λi f=>?_⟩
 ·rcases Rk b with ⟨z,n⟩|⟨g,j⟩
  ·let⟨i,rfl,m⟩:=c.val p z;let k:i≠h:=λe=>n (by rw[e]);exact⟨i,by rw[List.count_append,List.count_singleton,if_neg (by simpa using λe=>k e.symm)];rfl,nC _ m⟩
  ·refine⟨h,Prod.ext g ?_,mP _ (List.mem_singleton.mpr rfl)⟩;rw[j,List.count_append,List.count_singleton,if_pos (by simp)];rfl
 ·by_cases e:i=h
  ·exact⟨_,NV,by rw[e]⟩
  ·rcases List.mem_append.mp f with z|z
   ·let⟨p,b,f⟩:=c.all i z;exact⟨p,Rl b (by rw[f];exact λz=>e (Sum.inl.inj z)),f⟩
   ·exact absurd (List.mem_singleton.mp z) e
structure ZT(hs:Wp)(row:Row):Prop where
 up:row.Pairwise λp q=>p.1<q.1
 val:∀ p∈row,p.1∈hs/\p.2=(hs.count p.1:Nat)
 all:∀ i∈hs,∃ p∈row,p.1=i
def Rm.row{f:Wp}{a:List (eG × V)}{row:Row}(c:Rm f a)(d:row.Perm (a.map Wf))(k:row.Pairwise _fO.Le):ZT f row:=by
 let l:∀ p∈row,∃ q∈a,Wf q=p:=λp e=>List.mem_map.mp (d.mem_iff.mp e);refine⟨?_,λp e=>?_,λi o=>?_⟩
 ·let nd:(row.map (·.1)).Nodup:=by
   let z:=d.map (·.1);rw[nE]at z;refine z.nodup_iff.mpr ?_
   let g:a.map (λq=>(Wf q).1)=a.map λq=>(match q.1 with|.inl i=>i|.inr _=>0:Int):=uN λq b=>by
    let⟨i,rfl,_⟩:=c.val q b;rfl
   show (a.map (λq=>(Wf q).1)).Nodup;let n:=c.nd;rw[List.nodup_iff_pairwise_ne,List.pairwise_map]at n ⊢;refine n.imp_of_mem ?_;intro h j m r s z;let⟨i,rfl,_⟩:=c.val h m;let⟨t,rfl,_⟩:=c.val j r;exact s (congrArg Sum.inl z)
  rw[List.nodup_iff_pairwise_ne,List.pairwise_map]at nd;exact nd.imp₂ (λh j n b=>by unfold _fO.Le at b;lia) k
 ·let⟨q,b,rfl⟩:=l p e;let⟨i,rfl,m⟩:=c.val q b;exact⟨m,1⟩
 ·let⟨q,b,g⟩:=c.all i o;let⟨t,rfl,m⟩:=c.val q b;cases g;exact⟨_,d.mem_iff.mpr (List.mem_map.mpr ⟨_,b,1⟩),1⟩
def JZ:∀ {l L:Wp},l.Nodup->(∀ x∈l,x∈L)->↑l<=↑L:=by
 intro l
 induction l with
 | nil=>intro L _ _;exact mR _
 | cons x l a =>
  intro L b h;let n:=List.nodup_cons.mp b;let m:=h x qx;let z:=a (L:=L.erase x) n.2 λy a=>(List.mem_erase_of_ne (λe=>n.1 (by rw[← e];exact a))).mpr (h y (j0 _ a));rw[List.length_erase_of_mem m]at z;have:=List.length_pos_of_mem m;rw[kH];lia
def Rm.len{d L:Wp}{a:List (eG × V)}(c:Rm d a)(h:∀ i∈d,i∈L):↑a<=↑L:=by
 let e:a.map (·.1)=(a.map λq=>(match q.1 with|.inl i=>i|.inr _=>0:Int)).map Sum.inl:=by
  rw[nE];refine uN λq b=>?_;let⟨i,rfl,_⟩:=c.val q b;rfl
 let n:=c.nd;rw[e,List.nodup_iff_pairwise_ne,List.pairwise_map]at n
 let z:=JZ (L:=L) (l:=a.map λq=>(match q.1 with|.inl i=>i|.inr _=>0:Int)) (List.nodup_iff_pairwise_ne.mpr (n.imp λz y=>z (congrArg Sum.inl y))) λx f=>by
  let⟨q,b,rfl⟩:=List.mem_map.mp f;let⟨i,rfl,m⟩:=c.val q b;exact h i m
 rw[b8]at z;exact z
def qX(a:fY)(b:Int):Int:=((a[b.toNat]?).map Prod.fst).getD 0
class inductive Vh(C CS CW CB:Addr)
 | mk (U:Y1) (x r:Addr) (g:gT) (h:gS) (c:fY) (i:Nat × Kd) (k:Row) (b:Row) (_:vs=[↥x,↥r]) (_:mL C CS CW CB U H x g h c i k) (_:bU H r b) (_:(∀ p∈b,p.1<=p.2)) (_:↑(bg b)<=100000) (e:Wp) (_:↑e<64) (_:∀ a∈bg b,∃ (j:Nat) (q:Int × Nat),a=(j:Nat)/\c[j]?=⇑q/\q.1∈e) (_:∀ (l:Addr) (f:Row) (d:Hp),bU d l f->ZT ((bg b).map (qX c)) f->aJ H d->H l=none->Q ↥l d)
theorem qY:‹(4,89,["c","j"],(Vh eK cH cT dB))›:=λD=>by
 specialize eZ ["c","j","counts","t","q"] D.nX.F;let⟨ai,x,r,pe,aA,a,U,aH,b,rfl,W,X,ok,ls,I,lL,t,ab⟩:=h;let J:=gM hr;let⟨ai,SW,ae,w,sh,bl,kn,du,bk,dS,st,op,L,sg,ow,pw,db,tb,ak,LU⟩:=id W;exists _,#v[aY 2 kT,eO PassesOwn.never rfl (cC (aF D.gA (vH D) hr #[1])) (bW 3) #v[aY 4 (cL (cG (pv 0) rfl) D.iy D.m4 (Ez D) hr bH #[3]),nK J (pv 2) (pv 4) (bG dY (Af J (pv 2) (pv 4) az ⟨V,V⟩) az) rfl],aK (cA (Ar rfl) rfl D.T.Gr PyProof.Rows.boot_sorted #[DL PySem.F.plainAttrs_dict PySem.F.slot_dict_items PySem.F.type_dict_items Ni (pv 2)])]
 rfl'
 refine λc M=>?_;have s0:=ao M (.dK []);have N:(aO H c (.dK [])) c=⇑(.dK []):=af;generalize aO H c (.dK [])=J at s0 N;refine⟨Y,r,b,1,X.same s0,ok,by lia,λn O y J W=>?_⟩;have R:=J _ _ N;have ag:=s0.trans J;refine⟨n,1,⟨_,bJ.of y⟩,dG (K:=bV) (e:=n) (b:=(bg b).map V.int) (λi p d=>∃ (u v:Option V) (f:List (eG × V)),p=[⇑↥x,⇑↥r,⇑↥c,u,v]/\d c=⇑(.dK f)/\Rm (((bg b).take i).map (qX a)) f/\cD c O d/\aJ H d) ⟨none,none,[],1,R,⟨.nil,(λ_ z=>by cases z),λ_ z=>by cases z⟩,cD.refl _ _,ag⟩ (by rintro i p d _ ⟨_,_,_,_,_,_,s,_⟩;exact bJ.of (s _ _ y (cS y R))) ?_ ?_⟩
 ·rintro i am p d m ⟨u,v,f,rfl,g,k,s,o⟩;rw[kB]at m;let⟨l,S,rfl⟩:=Option.map_eq_some_iff.mp m;let⟨j,q,rfl,T,y⟩:=t l (mC S);let B:=LU.same o
  let C:∀ n,∀ i∈((bg b).take n).map (qX a),i∈I:=λn i m=>by
   let⟨l,F,rfl⟩:=List.mem_map.mp m;let⟨j,q,rfl,e,G⟩:=t l (List.mem_of_mem_take F);unfold qX;rw[show ((j:Nat):Int).toNat=j by lia,e];exact G
  let G:=k.len (C i)
  let nx:((bg b).take (i+1)).map (qX a)=((bg b).take i).map (qX a)++[q.1]:=by
   rw[take_snoc S,gm,List.map_singleton,show qX a ((j:Nat):Int)=q.1 by unfold qX;rw[show ((j:Nat):Int).toNat=j by lia,T];rfl]
  let y:=k.put q.1;rw[← nx]at y;exists Y,x,eK,ae,_,↥w,1,B.L.hx,D.aM.cl,D.sZ,1,w,L,Y,B.W.hx,1,Y,SW,w,L,sg,ow,pw,U.1,a,j,q,1,B.W,T;let F:∃ (u v:Option V) (w:List (eG × V)),[⇑(V.ref x),⇑↥r,⇑↥c,⇑(.int (j:Nat)),⇑(.int q.1)]=[⇑↥x,⇑↥r,⇑↥c,u,v]/\(aO d c (.dK (dX f (.inl q.1) (.int ((((bg b).take i).map (qX a)).count q.1+1:Nat))))) c=⇑(.dK w)/\Rm (((bg b).take (i+1)).map (qX a)) w/\cD c O (aO d c (.dK (dX f (.inl q.1) (.int ((((bg b).take i).map (qX a)).count q.1+1:Nat)))))/\aJ H (aO d c (.dK (dX f (.inl q.1) (.int ((((bg b).take i).map (qX a)).count q.1+1:Nat))))):=⟨Q,1,af,y,λl r e n=>aI c _ _ l r (s _ _ e n) n,bQ M o (aI c _ _)⟩;exists Y,c,1,.inl ⟨_,.inl g⟩,Y,_,gu.k (k:=Sum.inl q.1) g;rcases k.get q.1 with ⟨e,e0⟩|e
  ·rw[e];rw[e0]at F;exact⟨Z,Y,Y,c,Y,wD.k (k:=Sum.inl q.1) g (aQ ∅),F⟩
  ·rw[e];exact⟨Z,Y,Y,c,Y,wD.k (k:=Sum.inl q.1) g (aQ ∅),F⟩
 ·rintro p d ⟨u,v,f,rfl,g,k,s,o⟩;rw[b8,gQ]at k
  let C:∀ i∈(bg b).map (qX a),i∈I:=λi m=>by
   let⟨l,F,rfl⟩:=List.mem_map.mp m;let⟨j,q,rfl,e,G⟩:=t l F;unfold qX;rw[show ((j:Nat):Int).toNat=j by lia,e];exact G
  let G:=k.len C;refine⟨Y,.inr (.inr (.inl ⟨1,.inl ⟨_,g⟩⟩)),c,f,V,g,λv a=>?_⟩;refine⟨v,c,f,1,af,ao a _ _ _ g,λp b=>?_,by lia,λl c d f g j m n q r=>ab l d f ⟨c,m,n⟩ (k.row q r) (o.trans ((ao a _).trans j)) (aU (o.trans (ao a _)) g)⟩;let⟨i,e,_⟩:=k.val p b;exact⟨i,_,e⟩
class inductive NW(C:Addr)
 | mk (c:Y1) (x d s o p:Addr) (n:Nat) (a:fY) (h:Int) (_:vs=[↥x,.int h]) (_:We C c H x d s o p n a) (_:n<=1000) (_: ∀ (q:Addr) (b:Hp),bU b q (cy (lu h 0 a))->↑(cy (lu h 0 a))<=n->aJ H b->H q=none->Q ↥q b)
theorem AV:‹(2,84,["c","q"],(NW cT))›:=λD=>by
 specialize eZ ["c","q"] D.np.F;let⟨S,x,m,s0,r,p,t,u,h,rfl,W,w,k⟩:=h;let⟨r,t,u,w,y,n,B,C,F,o,j,c⟩:=id W;let r:=gM hr;exists _,#v[aK (aF D.Yh (oM D) hr #[Af r (cG (pv 0) rfl) (pv 1) (bM ah) ⟨V,V⟩])]
 rfl'
 refine⟨Y,x,cT,m,_,↥p,1,n,D.iy.cl,D.mE,1,p,1,.inl ⟨_,.inl j⟩,Y,iz,λz m=>?_⟩;let a:aJ H (aO H z (.lst [])):=ao m _;let l:(aO H z (.lst [])) z=⇑(.lst []):=af;generalize aO H z (.lst [])=m at a l;exists _,gu.k (k:=Sum.inl h) (a _ _ j)
 cases e:cE o (Sum.inl h) with
 | none =>
  refine⟨z,[],1,⟨[],l,.nil⟩,mR _,λq d f g i=>k q d ?_ ?_ (a.trans g) (aU a i)⟩
  ·rw[c.gc h e];exact f
  ·rw[c.gc h e];exact mR _
 | some v =>
  let⟨s,b,rfl,m,n,lo,R,j,l,o⟩:=c.got h v e;refine⟨s,b,1,R.same a,by lia,λq d f g i=>k q d ?_ ?_ (a.trans g) (aU a i)⟩
  ·rw[← l,← oG b j];exact f
  ·rw[← l,← oG b j];exact iG (iT b) ∅
def om.J1{C:Addr}{U j A:Y1}{H:Hp}{x k l m n o h p D G db t d:Addr}{a:gT}{c:Wp}{f:gS}{q:fY}{r:Nat × Kd}{v:Row}{b:dD}{e:jz}{Q:VK}{E:XK}(y:om C z I J U j A H x k l m n M o h N p O D sg ow G db tb a c f q r v)(T:e.At H t)(ok:e.Ok)(hc:H d=⇑(.lst []))(nc:d≠h)(hl:a.getLast?=⇑b)(l1:↑b<=50)(l2:↑a<=900)(l3:↑f<=900)(ab:∀ (g:Y1) (i:Hp),mL C z I J g i x (a++[b]) (f++[e.line]) q r v->rT U g H i->Q .gc i):L7 C z [↥x,↥t,↥d] H Q E:=by
 let F:↑(qW a)=↑a:=b8 _;refine⟨j,x,k,l,m,n,M,o,h,N,p,O,qW a,c,f,t,d,e,[],[],b.map aL,1,y.L,T,ok,hc,nc,.nil,(λ_ s=>by cases s),ly hl,(λs u e=>by cases e),(by show 0<=200;decide),by rw[b8];lia,by lia,by lia,λF u s w=>?_⟩
 let B:qW a++[oh (b.map aL) []]=qW (a++[b]):=by
  show _=(a++[b]).map _;rw[gm];rfl
 let F:c++List.replicate (↑(oh (b.map aL) [])-↑(b.map aL)) ((↑(qW a):Nat):Int)=c:=by
  show c++List.replicate (↑(b.map aL)-↑(b.map aL)) _=c;rw[Nat.sub_self];exact ir _
 rw[B,F]at s;let⟨g,B,F⟩:=y.vV s w;exact ab g u B F
def mL.al{C:Addr}{U:Y1}{H:Hp}{x:Addr}{b:gT}{c:gS}{d:fY}{e:Nat × Kd}{f:Row}(h:mL C n o p U H x b c d e f){a:Addr}(z:U a):∃ g,H a=⇑g:=by
 let⟨S,m,q,r,s,t,v,w,y,A,D,F,G,I,J,M,N,O,T,L,W,B,R,i,X,ab,dt,u⟩:=h;let⟨m,j,_⟩:=R;let⟨_,⟨_,_,⟨k,l⟩,_⟩⟩:=i;rcases (u a).mp z with y|y|y|y|y|y|y|y
 ·exact L.W.al a y
 ·exact W.al a y
 ·rw[y];exact⟨_,L.hb⟩
 ·rw[y];exact⟨_,L.hx⟩
 ·rw[y];exact⟨_,B⟩
 ·rw[y];exact⟨_,j⟩
 ·rw[y];exact⟨_,k⟩
 ·rw[y];exact⟨_,l⟩
def rT.trans{U c d:Y1}{H h i:Hp}(f:rT U c H h)(g:rT c d h i):rT U d H i:=by
 let j:∀ a b,H a=⇑b->¬ U a->¬ c a:=λa b e n z=>by
  rcases f.1 a z with y|y
  ·exact n y
  ·rw[y]at e;cases e
 refine⟨λa z=>?_,λa b e n=>g.2.1 _ _ (f.2.1 _ _ e n) (j a b e n),λa j e=>g.2.2 _ _ (f.2.2 _ _ e)⟩;rcases g.1 a z with y|y
 ·exact f.1 a y
 cases e:H a with
 | none=>exact .inr rfl
 | some b =>
  by_cases u:U a
  ·exact .inl u
  ·rw[f.2.1 _ _ e u]at y;cases y
def om.WM{C:Addr}{U f g:Y1}{H d:Hp}{x r v y b h i A D G db t:Addr}{I:gT}{J:Wp}{M:gS}{N:fY}{j:Nat × Kd}{aH m:Row}(ab:om C CS CW O U f g H x r v y b kn h i dS A op D sg ow G db tb I J M N j aH)(B:Bl O d b db t)(R:bU d t m)(lG:uo m)(k:cD b H d)(T:H t=none):om C CS CW O (λa=>f a\/g a\/a=i\/a=x\/a=b\/a=t\/a=h\/a=j.2.t) f g d x r v y b kn h i dS A op D sg ow G db t I J M N j m/\rT U (λa=>f a\/g a\/a=i\/a=x\/a=b\/a=t\/a=h\/a=j.2.t) H d:=by
 let⟨L,W,q,o,s,dj,l,dt,u⟩:=ab;let w:x≠b:=cS L.hx q;let n:∀ a o,H a=⇑(.tup o)->d a=⇑(.tup o):=λa o e=>k _ _ e (cS e q);have p:∀ {a c},H a=⇑c->a≠t:=λe z=>by rw[z,T]at e;cases e
 refine⟨⟨L.fr (λa c e z=>k _ _ e ?_) n,W.fr (λa c e z=>k _ _ e λq=>l.2.1 (by rw[← q];exact z)) n,B,R,⟨lG,s.2.mv λa c e o s _ F _=>⟨k _ _ e F,o,s⟩⟩,dj,l,⟨λz=>?_,λz=>?_,(p L.hb).symm⟩,λa=>Iff.rfl⟩,λa z=>?_,λa c e o=>k _ _ e λq=>o ((u a).mpr (.inr (.inr (.inr (.inr (.inl q)))))),n⟩
 ·rintro rfl;rcases z with z|z|z
  ·exact l.1 z
  ·exact l.2.2 z
  ·exact w z.symm
 ·let⟨c,e⟩:=L.W.al t z;exact p e rfl
 ·let⟨c,e⟩:=W.al t z;exact p e rfl
 ·rcases z with z|z|z|z|z|z|z
  ·exact .inl ((u a).mpr (.inl z))
  ·exact .inl ((u a).mpr (.inr (.inl z)))
  ·exact .inl ((u a).mpr (.inr (.inr (.inl z))))
  ·exact .inl ((u a).mpr (.inr (.inr (.inr (.inl z)))))
  ·exact .inl ((u a).mpr (.inr (.inr (.inr (.inr (.inl z))))))
  ·exact .inr (by rw[z];exact T)
  ·exact .inl ((u a).mpr (.inr (.inr (.inr (.inr (.inr (.inr z)))))))
class inductive Vi(C CS CW CB:Addr)
 | mk (U:Y1) (x r:Addr) (e:gT) (f:gS) (b:fY) (c:Nat × Kd) (g a:Row) (h:Int) (_:vs=[↥x,.int h,↥r]) (_:mL C CS CW CB U H x e f b c g) (_:bU H r a) (_:↑a<=29) (_:oj ↑b a=true) (_:c.1<64) (_:∀ y,In a y->y∈lu h 0 b) (_:∀ d,aJ H d->Q .gc d)
theorem lD:‹(4,85,["c","q","j"],(Vi eK cH cT dB))›:=λD=>by
 specialize eZ ["c","q","j"] D.YA.F;let⟨U,x,r,n,o,a,f,p,b,h,rfl,e,g,C,i,F,own,q⟩:=h;let⟨S,s,j,c,C,F,G,I,J,L,M,N,k,t,u,v,O,R,T,l⟩:=id e;refine⟨_,#v[aT (cL (pv 0) D.aM D.Yw (jY D) hr bH #[2]),bN (jG (aF D.Uo (uy D) hr #[2,cL (cG (pv 0) rfl) D.iy D.np (AV D) hr bH #[1]]) (λ_=>rfl)) #v[iH] bu],?_⟩
 rfl'
 refine⟨Y,x,j,Y,l.L.hx,1,Y,U,x,r,n,o,a,f,p,b,1,e,g,by lia,i,λe d=>?_⟩;let e:=l.same d;refine⟨Y,Y,x,eK,j,_,↥c,1,e.L.hx,D.aM.cl,D.sZ,1,c,k,Y,e.W.hx,1,Y,s,c,k,t,u,v,f.1,a,h,1,e.W,by lia,λc f e j m k=>?_⟩;let f:Ok b:=λp j=>by have:=(rV i p j).2.1;lia
 refine⟨r,c,b,Y,g.same (d.trans m),e,by lia,by lia,f,jf _,λo w c _ z e=>?_⟩
 let none:fX (cy (lu h 0 a)) (bg b)=[]:=by
  unfold fX;refine List.filter_eq_nil_iff.mpr λy b=>?_;have e:Iq (cy (lu h 0 a)) y=true:=jM.mpr (kW.mpr (own y (mG.mp b)));rw[e];decide
 rw[none]at c;let⟨a,y,B⟩:=c;cases B;exact⟨false,.inl ⟨[],bJ.of y,1⟩,fT (q w ((d.trans m).trans z))⟩
abbrev ft:List Nat:=(Str.ofString "blot").cps.toList
abbrev fu:List Nat:=(Str.ofString "lift").cps.toList
class inductive yV(C CS CW CB:Addr)(n:List Nat)(f:Prop->Prop->Prop)
 | mk (U:Y1) (x r:Addr) (b:gT) (d:gS) (c:fY) (e:Nat × Kd) (g a:Row) (h:Int) (i:dD) (_:vs=[↥x,.int h,↥r]) (_:mL C CS CW CB U H x b d c e g) (_:bU H r a) (_:JV a) (_:jS h) (_:oj ↑c a=true) (_:e.1<64) (_:∀ y,In a y->y∈lu h 0 c) (_:↑g+↑a<64) (_:b.getLast?=⇑i) (_:↑i<=50) (_:↑b<=900) (_:↑d<=900) (_:∀ (k:Y1) (j:Hp) (l:Row),mL C CS CW CB k j x (b++[i]) (d++[(jz.oQ n [h] a).line]) c e l->(∀ y,In l y↔f (In g y) (In a y))->rT U k H j->Q .gc j)
theorem qb:‹(5,86,["c","q","j"],(yV eK cH cT dB ft Or))›:=λD=>by
 specialize eZ ["c","q","j"] D.nD.F;let⟨U,x,r,B,C,F,G,n,b,h,f,rfl,a,o,q,I,s,J,own,L,M,N,O,R,S⟩:=h;let⟨f,X,d,wl,sh,e,kn,du,T,dS,st,op,dw,sg,ow,pw,t,W,ab,u⟩:=id a;exists _,#v[aT (cL (pv 0) D.aM D.YA (lD D) hr bH #[1,2]),aT (cL (cG (pv 0) rfl) D.jw D.kv (Bw D) hr bH #[2]),aT (cL (pv 0) D.aM D.Nl (ig D) hr bH #[c9 #[bw,1,2],bM ah])]
 rfl'
 let X:=q.1;let ab:Ok b:=λp f=>by have:=(rV s p f).2.1;lia
 refine⟨Y,x,d,Y,u.L.hx,1,Y,Y,U,x,r,B,C,F,G,n,b,h,1,a,o,X,s,J,own,λa g=>?_⟩;let a:=u.same g;let s:=o.same g;refine⟨Y,x,eK,d,_,↥e,1,a.L.hx,D.aM.cl,D.qQ,1,e,t,Y,a.B,1,Y,e,r,t,W,n,b,1,a.B,a.R,s,L,a.lG.1.ok,ab,λu ae v n R2 o ag B e t=>?_⟩;let⟨i,f2⟩:=a.WM n R2 o e t;let Og:=s.obj a.B e;refine⟨Y,x,d,Y,i.L.hx,1,Y,Y,Qf,λp f=>⟨iz,λc j=>?_⟩⟩;let k:=ao f (.tup [.str "blot",.int h,↥r]);let w:(aO v p (.tup [.str "blot",.int h,↥r])) p=⇑(.tup [.str "blot",.int h,↥r]):=af;generalize aO v p (.tup [.str "blot",.int h,↥r])=y at k w j;let l:=ao j (.lst []);let z:(aO y c (.lst [])) c=⇑(.lst []):=af
 let nc:c≠T:=λa=>by
  have:=k _ _ i.L.hb;rw[← a,j]at this;cases this
 generalize aO y c (.lst [])=a at l z;let m:=k.trans l;refine (i.same m).J1 (e:=.oQ ft [h] b) ⟨r,by rw[l _ _ w,pC];rfl,Og.same m⟩ ⟨(by show jR YU ft=some 1;decide +kernel),λy a=>by rw[List.mem_singleton.mp a];exact I,q⟩ z nc M N O R λa b c d=>?_;exact S a b ae c ag (((f2.pre g).trans (rT.same m)).trans d)
theorem qc:‹(5,87,["c","q","j"],(yV eK cH cT dB fu λB C=>B/\¬ C))›:=λD=>by
 specialize eZ ["c","q","j"] D.nR.F;let⟨U,x,r,F,G,I,J,n,b,h,f,rfl,a,o,q,L,s,M,own,lv,N,O,R,S,T⟩:=h;let⟨f,SW,d,wl,sh,e,kn,du,W,dS,st,op,dw,sg,ow,pw,t,X,ab,u⟩:=id a;exists _,#v[aT (cL (pv 0) D.aM D.YA (lD D) hr bH #[1,2]),aT (cL (cG (pv 0) rfl) D.jw D.kw (Bx D) hr bH #[2]),aT (cL (pv 0) D.aM D.Nl (ig D) hr bH #[c9 #[bw,1,2],bM ah])]
 rfl'
 let lr:=q.1;let ab:Ok b:=λp f=>by have:=(rV s p f).2.1;lia
 refine⟨Y,x,d,Y,u.L.hx,1,Y,Y,U,x,r,F,G,I,J,n,b,h,1,a,o,lr,s,M,own,λa g=>?_⟩;let a:=u.same g;let s:=o.same g;refine⟨Y,x,eK,d,_,↥e,1,a.L.hx,D.aM.cl,D.qQ,1,e,t,Y,a.B,1,Y,e,r,t,X,n,b,1,a.B,a.R,s,by lia,by lia,a.lG.1,ab,λu ae v n R2 o ag F e t=>?_⟩;let⟨i,f2⟩:=a.WM n R2 o e t;let Og:=s.obj a.B e;refine⟨Y,x,d,Y,i.L.hx,1,Y,Y,Qf,λp f=>⟨iz,λc j=>?_⟩⟩;let k:=ao f (.tup [.str "lift",.int h,↥r]);let w:(aO v p (.tup [.str "lift",.int h,↥r])) p=⇑(.tup [.str "lift",.int h,↥r]):=af;generalize aO v p (.tup [.str "lift",.int h,↥r])=y at k w j;let l:=ao j (.lst []);let z:(aO y c (.lst [])) c=⇑(.lst []):=af
 let nc:c≠W:=λa=>by
  have:=k _ _ i.L.hb;rw[← a,j]at this;cases this
 generalize aO y c (.lst [])=a at l z;let m:=k.trans l;refine (i.same m).J1 (e:=.oQ fu [h] b) ⟨r,by rw[l _ _ w,pC];rfl,Og.same m⟩ ⟨(by show jR YU fu=some 1;decide +kernel),λy a=>by rw[List.mem_singleton.mp a];exact L,q⟩ z nc N O R S λa b c d=>?_;exact T a b ae c ag (((f2.pre g).trans (rT.same m)).trans d)
class inductive Ma(C CS CW CB:Addr)
 | mk (U:Y1) (x:Addr) (c:gT) (d:gS) (e:fY) (f:Nat × Kd) (a:Row) (_:vs=[↥x]) (_:mL C CS CW CB U H x c d e f a) (_:∀ (q:Addr) (b:Hp),bU b q a->uo a->aJ H b->H q=none->Q ↥q b)
theorem nQ:‹(2,88,["c"],(Ma eK cH cT dB))›:=λD=>by
 specialize eZ ["c"] D.nU.F;let⟨U,x,i,j,l,m,d,rfl,e,k⟩:=h;let⟨S,i,f,j,l,b,m,n,o,p,q,r,s,t,u,v,c,g,w,a⟩:=id e;exists _,#v[aK (fD (cG (pv 0) rfl) D.jw D.kS (Ef D) hr bH)]
 rfl'
 exact⟨Y,x,eK,f,_,↥b,1,a.L.hx,D.aM.cl,D.qQ,1,b,c,Y,a.B,1,b,c,g,d,1,a.B,a.R,λq b c d e=>k q b c a.lG.1 d e⟩
def mL.m{C:Addr}{U:Y1}{H:Hp}{x:Addr}{a:gT}{b:gS}{c:fY}{d:Nat × Kd}{e:Row}{m:Str}{k:Prop}(L:mL C r t u U H x a b c d e)(q:k)(h:∀ f g i j l n:V,List.lookup m [("E",f),("B",g),("H",i),("R",j),("dues",l),("book",n)]=none:=by intros;rfl):Xs C m ↥x H k:=by
 let⟨s,v,o,w,y,z,A,B,D,F,G,I,J,M,N,O,R,S,T,p⟩:=id L;exact⟨x,o,Y,p.L.hx,h ..,q⟩
def om.g0{C:Addr}{U j l:Y1}{H c:Hp}{x m n o p g r t v y db:Addr}{A:gT}{D:Wp}{G:gS}{I:fY}{b:Nat × Kd}{J h M:Row}(N:om C O T CB U j l H x m n o p kn g r dS t op v sg ow y db tb A D G I b J)(ab:Du b.2.C c g dd b.2.t h)(P:nO h M)(k:cD b.2.t H c):om C O T CB U j l c x m n o p kn g r dS t op v sg ow y db tb A D G I (b.1,⟨b.2.C,b.2.t,M⟩) J/\rT U U H c:=by
 let⟨L,W,B,R,⟨lG,⟨q,w,⟨e1,i⟩,P0,s⟩⟩,dj,F,dt,u⟩:=N;let d:∀ a f,H a=⇑(.tup f)->c a=⇑(.tup f):=λa f e=>k _ _ e (cS e i);let⟨S,X,n3,n4⟩:=s _ (.inr rfl);refine⟨⟨L.fr (λa w e z=>k _ _ e ?_) d,W.fr (λa w e z=>k _ _ e λq=>X (by rw[← q];exact z)) d,k _ _ B n4.symm,R.two (λf e=>k _ _ e (cS e i)) d,⟨lG,⟨dd,h,ab,P,s⟩⟩,dj,F,dt,u⟩,λa z=>.inl z,λa w e f=>k _ _ e λq=>f ((u a).mpr (.inr (.inr (.inr (.inr (.inr (.inr (.inr q)))))))),d⟩;rintro rfl;rcases z with z|z|z
 ·exact S z
 ·exact n3 z
 ·exact absurd z.symm (cS L.hx i)
def ZT.len{c a:Wp}{b:Row}(s:ZT c b)(h:∀ i∈c,i∈a):↑b<=↑a:=by
 let z:=JZ (l:=b.map (·.1)) (L:=a) (List.nodup_iff_pairwise_ne.mpr (List.pairwise_map.mpr (s.up.imp λl e=>by lia))) λx d=>by
  let⟨p,e,rfl⟩:=List.mem_map.mp d;exact h _ (s.val p e).1
 rw[b8]at z;exact z
abbrev oP:List Nat:=(Str.ofString "read").cps.toList
class inductive G6(C CS CW CB CD:Addr)
 | mk (U:Y1) (x:Addr) (g:gT) (h:gS) (c:fY) (b:Nat × Kd) (d:Row) (e:dD) (s:Int) (f:Y2) (i:Wp) (_:vs=[↥x,.int s]) (_:mL C CS CW CB U H x g h c b d) (_:b.2.C=CD) (_:↑b.2.fc<=900) (_:g.getLast?=⇑e) (_:↑e<=50) (_:↑g<=800) (_:↑h<=900) (_:↑d<64) (_:qV ↑e s) (_:Seen e f) (_:↑(f s)<=200) (_:↑i<64) (_:∀ a∈f s,∃ (l:Nat) (q:Int × Nat),a=(l:Nat)/\c[l]?=⇑q/\q.1∈i) (_:∀ (m:Y1) (j:Hp) (k:Row) (n:gS),ZT ((fX d (f s)).map (qX c)) k->↑k<=↑i->↑n=↑h+1->mL C CS CW CB m j x (g++[e]) n c (b.1,⟨b.2.C,b.2.t,b.2.fc++k⟩) d->rT U m H j->Q (.str (gi ((f s).map (qo c d 35)))) j)
theorem yF:‹(7,90,["c","g"],(G6 eK cH cT dB jW))›:=λD=>by
 specialize eZ ["c","g","bare","q","many"] D.n6.F;let⟨U,x,m,t,n,a,c,I,s,f,hL,rfl,u,eC,M,hl,J,l2,l3,lv,v,sn,ls,lh,ab,aq⟩:=h;let⟨ae,SW,g,wl,ag,bl,kn,i,L,dS,st,op,dw,sg,ow,pw,db,tb,ai,o⟩:=id u;exists _,#v[aY 2 (aF D.Uo (uy D) hr #[cL (pv 0) D.aM D.Qk (iX D) hr bH #[1],fD (pv 0) D.aM D.nU (nQ D) hr bH]),eO PassesOwn.never rfl (cC (cL (pv 0) D.aM D.nX (qY D) hr bH #[2])) (j6 (n:=2) rfl (bR (bW 3) (bR (bW 4) gB))) #v[aT (cL (cG (pv 0) rfl) D.pT D.mf (GY D) hr bH #[3,4])],aT (cL (pv 0) D.aM D.Nl (ig D) hr bH #[c9 #[bw,1],bM ah]),aK (cL (pv 0) D.aM D.Yz (pZ D) hr bH #[1])]
 rfl'
 refine⟨Y,x,g,Y,o.L.hx,1,Y,ae,x,g,wl,ag,bl,kn,i,L,dS,st,op,m,ai,t,I,s,1,o.L,hl,J,by lia,v,⟨f,sn,λar H1 ho M fo=>?_⟩⟩;let AO:=o.same M;refine⟨Y,x,g,Y,AO.L.hx,1,U,x,m,t,n,_,c,1,u.same M,λq H2 hq lG s2 fq=>?_⟩;let rl:=ku (f s);refine⟨ar,q,cy (f s),c,1,ho.same s2,hq,by lia,lv,jf _,lG.ok,λak H3 Iv _ s3 SO=>?_⟩;rw[dm]at Iv;let w:=M.trans (s2.trans s3);let M:=o.same w;let lo:=List.length_filter_le (λx=>!Iq c x) (f s);let am:∀ b∈fX c (f s),∃ (j:Nat) (q:Int × Nat),b=(j:Nat)/\n[j]?=⇑q/\q.1∈hL:=λb p=>ab b (List.mem_filter.mp p).1;refine⟨Y,x,g,Y,M.L.hx,1,Y,U,x,ak,m,t,n,_,c,cy (fX c (f s)),1,u.same w,Iv,jf _,by rw[dm];unfold fX;lia,hL,lh,by rw[dm];exact am,λN r H4 as O s4 fl=>?_⟩;rw[dm]at O
 let av:=O.len λk z=>by
  let⟨b,p,rfl⟩:=List.mem_map.mp z;let⟨j,q,rfl,e,F⟩:=am b p;unfold qX;rw[show ((j:Nat):Int).toNat=j by lia,e];exact F
 let Fj:=w.trans s4;let aw:=o.same Fj;let⟨bs,an,p4⟩:=id as;let ax:=p4.len
 let ay:¬ U N:=λy=>by
  let⟨d,e⟩:=u.al y;rw[w _ _ e]at fl;cases fl
 refine⟨N,1,⟨_,bJ.of an⟩,dG (K:=bV) (e:=N) (b:=bs.map V.ref) (λk B d=>∃ (y R:Option V),B=[⇑↥x,⇑(.int s),⇑↥ak,y,R]/\om eK cH cT dB U ae SW d x g wl ag bl kn i L dS st op dw sg ow pw db tb m ai t n (a.1,⟨a.2.C,a.2.t,a.2.fc++r.take k⟩) c/\rT U U H4 d) ⟨none,none,1,by rw[List.take_zero,ir];exact aw,rT.same (aJ.refl _)⟩ (by rintro k B d _ ⟨_,_,_,_,l⟩;exact bJ.of (l.2.1 _ _ an ay)) ?_ ?_⟩
 ·rintro k y B d z ⟨y1,z1,rfl,e,l⟩;rw[kB]at z;let⟨b,G,rfl⟩:=Option.map_eq_some_iff.mp z;let⟨⟨h,F⟩,w,z⟩:=p4.get G;let⟨u,⟨o,t,G,M,N⟩⟩:=id e.lG;let u:Du jW d i o a.2.t t:=by rw[← eC];exact G
  let G:↑(r.take k)<=↑r:=by rw[gI];lia
  exists b,Y,dN.of (l.2.2 _ _ z),1,E,1,Z;refine⟨Y,x,eK,g,_,↥i,1,e.L.hx,D.aM.cl,D.zP,1,i,o,Y,u.1,1,Y,Y,i,o,a.2.t,t,a.2.fc++r.take k,h,F,1,u,M,by rw[cY];lia,λt C u z F=>?_⟩;let⟨k,G⟩:=e.g0 (show Du a.2.C C i o a.2.t t from by rw[eC];exact u) z F;rw[j4,← take_snoc w]at k;exact⟨E,1,k,l.trans G⟩
 ·rintro B d ⟨y1,z1,rfl,e,l⟩;rw[b8,ax,gQ]at e;refine⟨Y,x,g,Y,e.L.hx,1,Y,mj,λF a=>⟨iz,λG S=>?_⟩⟩;let T:=ao a (.tup [.str "read",.int s]);let p6:(aO d F (.tup [.str "read",.int s])) F=⇑(.tup [.str "read",.int s]):=af;generalize aO d F (.tup [.str "read",.int s])=C at T p6 S;let W:=ao S (.lst []);let c7:(aO C G (.lst [])) G=⇑(.lst []):=af
  let nc:G≠L:=λR=>by
   have:=T _ _ e.L.hb;rw[← R,S]at this;cases this
  generalize aO C G (.lst [])=a at W c7;let ap:=T.trans W;let d:=v.1;let g:=v.2;refine (e.same ap).J1 (e:=.plain oP [s]) (by show a F=_;rw[W _ _ p6];kernel_rfl) ⟨(by show jR QI oP=some 1;decide +kernel),λy a=>by rw[List.mem_singleton.mp a];exact⟨d,by lia⟩⟩ c7 nc hl J ∅ l3 λU' a X f8=>?_;let⟨e,g,a,i,k,o,t,u,w,y,z,B,C,F,G,L,M,N,R,d⟩:=id X;refine⟨Y,x,a,Y,d.L.hx,1,Y,U',x,m++[I],_,n,_,c,I,s,f,1,X,by simp,by rw[cY];simp only[kH,oq];lia,J,v,sn,ls,(λb p=>?_),λH9 s9=>?_⟩
  ·let⟨j,q,rfl,a,_⟩:=ab b p;have:=(List.getElem?_eq_some_iff.mp a).1;exact⟨by lia,by lia⟩
  ·exact aq U' H9 r _ O av (by rw[cY];rfl) (X.same s9) (((((rT.same Fj).trans l).trans (rT.same ap)).trans f8).trans (rT.same s9))
class inductive Rn(C CS CW CB CD:Addr)
 | mk (U:Y1) (x:Addr) (b:gT) (c:gS) (d:fY) (a:Nat × Kd) (e:Row) (h:Int) (_:vs=[↥x,.int h]) (_:mL C CS CW CB U H x b c d a e) (_:a.2.C=CD) (_:Q (.int (jh a.2.fc h)) H)
class inductive NY(C CS CW CB CD:Addr)
 | mk (U:Y1) (x:Addr) (c:gT) (d:gS) (e:fY) (a:Nat × Kd) (f:Row) (_:vs=[↥x]) (_:mL C CS CW CB U H x c d e a f) (_:a.2.C=CD) (_:∀ b:Hp,aJ H b->Q (.int (a.2.fc.map (·.2)).sum) b)
theorem AW:‹(2,91,["c","q"],(Rn eK cH cT dB jW))›:=λD=>by
 specialize eZ ["c","q"] D.n7.F;let⟨U,x,m,n,o,b,p,h,rfl,g,i,k⟩:=h;let⟨S,m,j,n,o,p,q,a,r,s,t,u,v,w,y,z,B,C,F,d⟩:=id g;let⟨_,⟨c,e,g,l,_⟩⟩:=d.lG;let f:Du jW H a c b.2.t e:=by rw[← i];exact g
 exists _,#v[aK (cL (cG (pv 0) rfl) D.pT D.Yu (yi D) hr bH #[1])]
 rfl'
 exact⟨Y,x,eK,j,_,↥a,1,d.L.hx,D.aM.cl,D.zP,1,a,c,Y,f.1,1,Y,a,c,b.2.t,e,b.2.fc,h,1,f,l,k⟩
theorem yG:‹(2,92,["c"],(NY eK cH cT dB jW))›:=λD=>by
 specialize eZ ["c"] D.oa.F;let⟨U,x,m,n,o,b,p,rfl,g,i,k⟩:=h;let⟨S,m,j,n,o,p,q,a,r,s,t,u,v,w,y,z,B,C,F,d⟩:=id g;let⟨_,⟨c,e,g,l,_⟩⟩:=d.lG;let f:Du jW H a c b.2.t e:=by rw[← i];exact g
 exists _,#v[aK (fD (cG (pv 0) rfl) D.pT D.mi (BE D) hr bH)]
 rfl'
 exact⟨Y,x,eK,j,_,↥a,1,d.L.hx,D.aM.cl,D.zP,1,a,c,Y,f.1,1,a,c,b.2.t,e,b.2.fc,1,f,l,k⟩
def Rp{z:Str}{i:Int}{n:Nat}(b:↑z=n)(a:0<=i)(d:i<n):∃ c,oU z.cps.toList i=⇑c:=by
 let e:i.toNat<↑z.cps.toList:=by
  have:↑z.cps.toList=↑z:=by show _=z.cps.size;simp
  lia
 exists z.cps.toList[i.toNat];let e:oU z.cps.toList ((i.toNat:Nat):Int)=⇑z.cps.toList[i.toNat]:=dh (by simp);rw[Int.toNat_of_nonneg a]at e;exact e
class inductive Vk
 | mk (l d:Addr) (b:Bool) (_:vs=[↥l,.bl b]) (_:dM H l d) (_: ∀ (ch:Nat) (c:Hp),dM c l d->(∀ a,a≠l->c a=H a)->Q (rY ch) c)
class inductive Vl
 | mk (l c:Addr) (m:Nat) (_:vs=[↥l,.int (m:Nat)]) (_:dM H l c) (_:m<=1000) (_: ∀ (b:List Nat) (a:Hp),↑b=m->dM a l c->cD l H a->Q (.str (gi b)) a)
theorem G7:‹(2,93,["b","2"],Vk)›:=λD=>by
 specialize eZ ["b","2","_law_some"] D.oe.F;let⟨l,i,b,rfl,S,k⟩:=h;refine⟨_,#v[aY 2 bw,bN (jG (pv 1) (λ_=>rfl)) #v[aK (aR OV bw (aF D.uM (fN D) hr #[0,az]))] bu,aK (aR OV (pv 2) (aF D.uM (fN D) hr #[0,az]))],?_⟩
 rfl'
 refine⟨Y,b,1,dO (λ_=>?_) (λ_=>?_)⟩
 ·refine⟨Y,l,i,4,1,S,by decide,by decide,λv b c d e f=>?_⟩;let⟨a,g⟩:=Rp (z:=Str.ofString "a# b") (n:=4) nofun c d;exact⟨E,a,V,nofun,g,k a b e f⟩
 ·refine⟨Y,Y,l,i,94,1,S,by decide,by decide,λv b c d e f=>?_⟩;let⟨a,g⟩:=Rp (z:=Str.ofString " !\"#$&'()*+,-./0123456789:;<=>?@ABCDEFGHIJKLMNOPQRSTUVWXYZ[\\]^_`abcdefghijklmnopqrstuvwxyz{|}~") (n:=94) nofun c d;exact⟨E,a,V,nofun,g,k a b e f⟩
theorem G8:‹(3,94,["b","M"],Vl)›:=λD=>by
 specialize eZ ["b","M","2"] D.og.F;let⟨l,g,m,rfl,S,s,w⟩:=h;refine⟨_,#v[aY 2 (kC eV (aF D.uM (fN D) hr #[0,az]) az (bz _)),aK (dZ PySem.F.plainAttrs_str PySem.F.slot_str_join PySem.F.type_str_join Aq bw #[gO (N:=["_law_k","b","2"]) (jJ (c:=b9 t6) (f:=["b","M","2"]) (d:=[none,some 0,some 2]) rfl rfl rfl nofun nofun rfl nofun rfl nofun) rfl (jA rfl D.T.jO #[1]) (λ_ _ _ _ _ _=>(bW 0)) (λ_ _ _ _ _ _=>gU) (λ_ _ _ _ _ _=>(aF D.oe (G7 D) hr #[1,2]))])],?_⟩
 rfl'
 refine⟨Y,l,g,2,1,S,by decide,by decide,λx s _ _ i y=>⟨1,?_⟩⟩;let q:cD l H s:=λd r e m=>(y d m).trans e;refine⟨1,Y,(m:Nat),1,by lia,by lia,λb f=>qR (lo:=0) (k:=((m:Nat):Int).toNat) (λs j c=>∃ (u:Option V) (a:List Nat),j=[u,⇑↥l,⇑(.bl (decide (V.int x=V.int 0)))]/\c b=⇑(.lst (a.map rY))/\↑a=s/\dM c l g/\cD l H c) ⟨none,[],1,af,1,i.same (ao f _),λd r e m=>ao f _ _ _ (q _ _ e m)⟩ ?_ ?_⟩
 ·rintro s j c F ⟨u,a,rfl,k,t,n,o⟩;let p:b≠l:=(i.ne f).1.symm;let B:b≠g:=(i.ne f).2.symm;refine⟨Y,Y,l,g,Y,n,λg i C v=>⟨_,by rw[v b p];exact k,(by rw[b8];exact aQ ∅),_,a++[g],1,?_,?_,?_,?_⟩⟩
  ·rw[af,gm];rfl
  ·rw[cY,t];rfl
  ·exact C.keep (aI b _ _) p.symm B.symm
  ·intro d r e m;by_cases z:d=b
   ·rw[z]at e;have:=gW q p f;rw[this]at e;cases e
   rw[aN z,v d m];exact o _ _ e m
 ·rintro j c ⟨u,a,rfl,k,t,n,o⟩;let d:↑a=m:=by lia
  exact⟨b,a,V,k,by lia,w a c d n o⟩
def EA{a b:Type}{c:a->b->Prop}{d:List a}{e:List b}{x:a}{y:b}(h:Paired c d e)(f:c x y):Paired c (d++[x]) (e++[y]):=by
 induction h with
 | nil=>exact .cons f .nil
 | cons r _ g=>exact .cons r g
def BH{b c:Type}{a:b->c->Prop}{d e:List b}{f g:List c}(h:Paired a d f)(t:Paired a e g):Paired a (d++e) (f++g):=by
 induction h with
 | nil=>exact t
 | cons i _ j=>exact .cons i j
def G9(H:Hp)(a:Addr)(q:Int × Nat):Prop:=H a=⇑(.tup [.int q.1,rY q.2])
inductive EB(H:Hp)(v:Addr)(aC:fY):Prop
 | mk (a:WF) (_:H v=⇑(.lst (a.map V.ref))) (_:Paired (G9 H) a aC)
abbrev kI:eG:=.inr (Str.ofString "ink")
abbrev kR:eG:=.inr (Str.ofString "n")
abbrev kP:eG:=.inr (Str.ofString "past")
abbrev Rt:eG:=.inr (Str.ofString "veil")
abbrev lK(a rw b c:Addr):List (eG × V):=[(kI,↥a),(kR,↥rw),(kP,↥b),(Rt,↥c)]
def WN(W:Y1)(a c:Addr)(H:Hp)(v:V)(d:Wp):Prop:=∃ b,v=↥b/\W b/\b≠a/\b≠c/\H b=⇑(.lst (d.map V.int))
def Ov(W:Y1)(b c:Addr)(H:Hp)(a:Addr)(e:dD):Prop:=W a/\a≠b/\a≠c/\∃ d,H a=⇑(.lst d)/\cP (WN W b c H) d e
structure IB(ke:Nat)(aH:Row)(W:Y1)(H:Hp)(w ik rw ps vl:Addr)(aC:fY)(pe:gT)(rows:dD):Prop where
 ww:W w
 wi:W ik
 wp:W ps
 wv:W vl
 al:∀ a,W a->∃ ob,H a=⇑ob
 hw:H w=⇑(.dK (lK ik rw ps vl))
 hi:EB H ik aC
 hr:Ov W ik ps H rw rows
 hp:∃ vs,H ps=⇑(.lst vs)/\cP (λv rs=>∃ a,v=↥a/\Ov W ik ps H a rs) vs pe
 ne:ik≠ps
 lst:pe.getLast?=⇑rows
 hv:∃ vn:List Int,H vl=⇑(.lst (vn.map V.int))/\↑vn+ke<=1000*↑pe/\∀ y,y∈vn↔In aH y
 nv:vl≠ik/\vl≠ps
def Wo(a:Nat)(b:Row)(W:Y1)(H:Hp)(w:Addr)(c:fY)(d:gT)(e:dD):Prop:=∃ f rw g h,IB a b W H w f rw g h c d e
theorem WN.fr{W b:Y1}{H c:Hp}{v:V}{d:Wp}(s:∀ a,W a->b a)(k:∀ a e,H a=⇑(.lst e)->W a->a≠f->a≠g->c a=⇑(.lst e)):WN W f g H v d->WN b f g c v d:=λ⟨j,l,w,h,i,m⟩=>⟨j,l,s _ w,h,i,k _ _ m w h i⟩
theorem Ov.fr{W b:Y1}{H c:Hp}{a:Addr}{d:dD}(s:∀ a,W a->b a)(k:∀ a e,H a=⇑(.lst e)->W a->a≠f->a≠g->c a=⇑(.lst e)):Ov W f g H a d->Ov b f g c a d:=λ⟨w,h,i,j,l,m⟩=>⟨s _ w,h,i,j,k _ _ l w h i,m.mono λ_ _=>WN.fr s k⟩
def EB.two{H b:Hp}{v:Addr}{d:fY}(h:EB H v d)(k:∀ a,H v=⇑(.lst a)->b v=⇑(.lst a))(t:∀ c a,H c=⇑(.tup a)->b c=⇑(.tup a)):EB b v d:=by
 let⟨e,f,g⟩:=h;exact⟨e,k _ f,Paired.Dv g λc q e=>t _ _ e⟩
def IB.fr{W:Y1}{H d:Hp}{w rw:Addr}{f:fY}{g:gT}{h:dD}(i:IB 1000 aH W H w j rw l m f g h)(k:∀ a c,H a=⇑c->W a->d a=⇑c)(t:∀ a b,H a=⇑(.tup b)->d a=⇑(.tup b)):IB 1000 aH W d w j rw l m f g h:=by
 let⟨ww,wi,wp,wv,al,hw,hi,hr,⟨n,hp,o⟩,ne,lst,hv,nv⟩:=i;refine⟨ww,wi,wp,wv,λa z=>?_,k _ _ hw ww,hi.two (λb e=>k _ _ e wi) t,hr.fr (λ_ z=>z) (λa b e z _ _=>k _ _ e z),⟨n,k _ _ hp wp,o.mono λv n ⟨a,e,z⟩=>⟨a,e,z.fr (λ_ y=>y) (λa b e y _ _=>k _ _ e y)⟩⟩,ne,lst,hv.imp λ_ z=>⟨k _ _ z.1 wv,z.2⟩,nv⟩;let⟨c,e⟩:=al a z;exact⟨c,k _ _ e z⟩
def Wo.fr{W:Y1}{H b:Hp}{w:Addr}{c:fY}{d:gT}{e:dD}(h:Wo 1000 i W H w c d e)(k:∀ a f,H a=⇑f->W a->b a=⇑f)(t:∀ a g,H a=⇑(.tup g)->b a=⇑(.tup g)):Wo 1000 i W b w c d e:=by
 let⟨j,rw,l,m,z⟩:=h;exact⟨j,rw,l,m,z.fr k t⟩
theorem Wo.same{W:Y1}{H a:Hp}{w:Addr}{b:fY}{c:gT}{d:dD}(h:Wo 1000 g W H w b c d)(s:aJ H a):Wo 1000 g W a w b c d:=h.fr (λf i e _=>s f i e) λf f e=>s _ _ e
def Mb:Sp:=λa H Q _=>a=[]/\∀ (W:Y1) (w:Addr) (a:Hp),Wo 1000 [] W a w [] [[]] []->(∀ b,W b->H b=none)->aJ H a->Q ↥w a
theorem wd{a:Cx}{b c d e:Str}{n o p q:Nat}{r t u v x:Pos}{f g h i:Expr}{j k l m:TE}(y:PE a f j)(z:PE a g k)(A:PE a h l)(B:PE a i m) :
  PE a (.Dict [⇑(.Constant (.str b) n r),⇑(.Constant (.str c) o t),⇑(.Constant (.str d) p u),⇑(.Constant (.str e) q v)] [f,g,h,i] x) (PF [(tC (.str b),j),(tC (.str c),k),(tC (.str d),l),(tC (.str e),m)]) :=
 T3 (vv bw y (vv bw z (vv bw A (vv bw B TZ)))) rfl rfl (by simp) (by show 4<=15;decide)
abbrev wf:TE:=PF [(tC (.str "ink"),MD zf),(tC (.str "n"),MD zf),(tC (.str "past"),MD (OP (MD zf) zf)),(tC (.str "veil"),MD zf)]
theorem Ru:∃ (e:Expr) (p:Pos),jI qP=[.Return (⇑e) p]/\∀ a:Cx,PE a e wf :=
 ⟨E,1,λa=>@wd a _ _ _ _ _ _ _ _ _ _ _ _ _ _ _ _ _ _ _ _ _ (bM ah) (bM ah) (bM #[bM ah]) (bM ah)⟩
theorem EC:‹(1,95,[],Mb)›:=λD=>by
 refine eZ [] D.Us.F λdc A zn s H vs Q E hr _ h=>?_;let⟨rfl,W⟩:=h;let⟨e,ab,X,pw⟩:=Ru;rw[X];exists _,au (aK (pw _));intro bf w;refine⟨iz,λb x=>⟨iz,λrw q=>⟨iz,λz l=>⟨mh,λc f=>⟨iz,λg i=>?_⟩⟩⟩⟩⟩;have s0:=ao w (.dK []);have I:(aO H bf (.dK [])) bf=⇑(.dK []):=af;generalize aO H bf (.dK [])=v at s0 I x q l f i;have m:=ao x (.lst []);have n:(aO v b (.lst [])) b=⇑(.lst []):=af;generalize aO v b (.lst [])=y at m n q l f i;have j:=ao q (.lst []);have B:(aO y rw (.lst [])) rw=⇑(.lst []):=af;generalize aO y rw (.lst [])=J at j B l f i;have k:=ao l (.lst []);have C:(aO J z (.lst [])) z=⇑(.lst []):=af;generalize aO J z (.lst [])=L at k C f i;have o:=ao f (.lst [↥z]);have F:(aO L c (.lst [↥z])) c=⇑(.lst [↥z]):=af;generalize aO L c (.lst [↥z])=M at o F i;have r:=ao i (.lst []);have G:(aO M g (.lst [])) g=⇑(.lst []):=af;generalize aO M g (.lst [])=t at r G;have J:aJ y t:=j.trans (k.trans (o.trans r));have N:aJ v t:=m.trans J;have O:=N _ _ I;have R:=J _ _ n;have S:=(k.trans (o.trans r)) _ _ B;have T:=(o.trans r) _ _ C;have U:=r _ _ F;have nl:∀ {a:Addr} {p:List V},t a=⇑(.lst p)->a≠bf:=λ{a p} e r=>by rw[r,O]at e;cases e
 let n1:rw≠b:=(aB n q).symm;let n2:rw≠c:=aB (k _ _ B) f;let n3:z≠b:=(aB (j _ _ n) l).symm;let n4:z≠c:=aB C f;let n5:b≠c:=aB ((j.trans k) _ _ n) f;refine⟨O,lK b rw c g,1,(by show 4<=15;decide),?_⟩;rw[show wG [] (lK b rw c g)=lK b rw c g by kernel_rfl];let d:∀ {a:Addr} {p:List V},t a=⇑(.lst p)->(aO t bf (.dK (lK b rw c g))) a=⇑(.lst p):=λ{a p} e=>by rw[aN (nl e)];exact e
 let u:∀ a,v a=none->H a=none:=λa e=>aU s0 e;refine W (λa=>a=bf\/a=b\/a=rw\/a=z\/a=c\/a=g) bf _ ⟨b,rw,c,g,.inl rfl,.inr (.inl rfl),.inr (.inr (.inr (.inr (.inl rfl)))),.inr (.inr (.inr (.inr (.inr rfl)))),λa e=>?_,af,⟨[],d R,.nil⟩,⟨.inr (.inr (.inl rfl)),n1,n2,[],d S,.nil⟩,⟨[↥z],d U,.cons ⟨z,1,.inr (.inr (.inr (.inl rfl))),n3,n4,[],d T,.nil⟩ .nil⟩,n5,1,⟨[],d G,(by decide),λy=>⟨λz=>(by cases z),λ⟨_,z,_⟩=>(by cases z)⟩⟩,(aB ((j.trans (k.trans o)) _ _ n) i).symm,(aB F i).symm⟩ (λa e=>?_) (bQ w (s0.trans N) (aI bf _ _))
 ·rcases e with rfl|rfl|rfl|rfl|rfl|rfl
  ·exact⟨_,af⟩
  ·exact⟨_,d R⟩
  ·exact⟨_,d S⟩
  ·exact⟨_,d T⟩
  ·exact⟨_,d U⟩
  ·exact⟨_,d G⟩
 ·rcases e with rfl|rfl|rfl|rfl|rfl|rfl
  ·exact w
  ·exact u _ x
  ·exact u _ (aU m q)
  ·exact u _ (aU m (aU j l))
  ·exact u _ (aU m (aU j (aU k f)))
  ·exact u _ (aU m (aU j (aU k (aU o i))))
class inductive Rv
 | mk (W:Y1) (w r:Addr) (i:fY) (f:gT) (k g:dD) (_:vs=[↥w,↥r]) (_:Wo ke aH W H w i f k) (_:↑f<=1000) (_:(∀ e b,(∃ rw h,H w=⇑(.dK (lK e rw b h)))->Ov W e b H r g)) (_: ∀ (c:Hp),Wo 1000 aH W c w i (f++[g]) g->(∀ a j,H a=⇑j->¬ W a->c a=⇑j)->(∀ a d,H a=⇑(.tup d)->c a=⇑(.tup d))->(∀ e rw b h,H w=⇑(.dK (lK e rw b h))->∀ a d,H a=⇑(.lst d)->a≠b->c a=⇑(.lst d))->Q .gc c)
theorem lE:‹(1,96,["a","d"],Rv)›:=λD=>by
 specialize eZ ["a","d"] D.Nm.F;let⟨W,bf,r,aC,w,C,F,rfl,⟨d,rw,b,f,h⟩,G,x,k⟩:=h;let p:=gM hr;exists _,#v[nK p (pv 0) bw (pv 1) rfl,aT (dZ oS jE jF bX (fK p (pv 0) bw) #[1])]
 rfl'
 let y:=x d b ⟨rw,f,h.hw⟩;refine⟨Y,Y,bf,Y,wD.k (k:=kR) h.hw (by show 4<sizeLine;decide),?_⟩;rw[show dX (lK d rw b f) kR ↥r=lK d r b f by kernel_rfl];let⟨i,j,t⟩:=h.hp;let g:=aI bf H (.dK (lK d r b f));let l:(aO H bf (.dK (lK d r b f))) bf=⇑(.dK (lK d r b f)):=af;let m:∀ {a:Addr} {p:HO},H a=⇑p->(∀ c,p≠.dK c)->a≠bf:=λ{a p} e n q=>by rw[q,h.hw]at e;cases e;exact n _ rfl
 generalize aO H bf (.dK (lK d r b f))=s at g l;let u:=g _ _ j (m j (λ_ z=>by cases z));let z:=gu.k (k:=kP) l;rw[show cE (lK d r b f) kP=⇑↥b by kernel_rfl]at z;let p:i.length=↑w:=t.len;refine⟨Y,bf,Y,z,.inl ⟨1,_,bJ.of u⟩,Y,b,Z,u,aQ ∅,?_⟩;let B:bf≠b:=(m j (λ_ z=>by cases z)).symm
 let o:∀ a c,H a=⇑(.lst c)->a≠b->(aO s b (.lst (i++[↥r]))) a=⇑(.lst c):=λa c e n=>by
  rw[aN n];exact g _ _ e (m e (λ_ z=>by cases z))
 let v:∀ a c,H a=⇑(.tup c)->(aO s b (.lst (i++[↥r]))) a=⇑(.tup c):=λa c e=>by
  rw[aN (cS e j)];exact g _ _ e (m e (λ_ z=>by cases z))
 let m:∀ {a:Addr} {j:dD},Ov W d b H a j->Ov W d b (aO s b (.lst (i++[↥r]))) a j:=λ{a j} q=>q.fr (λ_ i=>i) λa c e _ _ n=>o a c e n;have i:=m y
 refine k _ ⟨d,r,b,f,h.ww,h.wi,h.wp,h.wv,λa p=>?_,?_,h.hi.two (λc e=>o _ _ e h.ne) v,i,⟨_,af,(t.mono λd j ⟨a,e,q⟩=>⟨a,e,m q⟩).app (.cons ⟨r,1,i⟩ .nil)⟩,h.ne,mQ,h.hv.imp λ_ z=>⟨o _ _ z.1 h.nv.2,by rw[cY,iA];have:=z.2.1;lia,z.2.2⟩,h.nv⟩ (λa f e n=>?_) v λi j m r d a c e n=>o a c e (by
  rw[h.hw]at d;simp only[Option.some.injEq,HO.dK.injEq,lK,List.cons.injEq,Prod.mk.injEq,V.ref.injEq,true_and,and_true]at d;rw[d.2.2.1]
  exact n)
 ·by_cases c:a=b
  ·rw[c];exact⟨_,af⟩
  rw[aN c];by_cases b:a=bf
  ·rw[b];exact⟨_,l⟩
  ·let⟨f,e⟩:=h.al a p;exact⟨f,g _ _ e b⟩
 ·rw[aN B];exact l
 ·rw[aN (λq=>n (by rw[q];exact h.wp))];exact g _ _ e (λq=>n (by rw[q];exact h.ww))
def Wo.al{W:Y1}{H:Hp}{w:Addr}{b:fY}{c:gT}{d:dD}(h:Wo 1000 f W H w b c d){a:Addr}(z:W a):∃ e,H a=⇑e:=by
 let⟨g,rw,i,j,y⟩:=h;exact y.al a z
structure oR(C CS CW CB:Addr)(H:Hp)(l c w x:Addr)(U W:Y1)(pe:gT)(rows:dD)(pq:gT)(rq:dD)(aA:gS)(aC:fY)(nW:Nat × Kd)(aH:Row):Prop where
 src:dM H l c
 Dp:mL C CS CW CB U H x pe aA aC nW aH
 lst:pe.getLast?=⇑rows
 wo:Wo 1000 aH W H w aC pq rq
 du:∀ a,U a->¬ W a/\a≠l/\a≠c
 dw:∀ a,W a->a≠l/\a≠c
def ID(l:Addr)(U W d e:Y1)(H b:Hp):Prop:=(∀ a,d a\/e a->U a\/W a\/H a=none)/\(∀ a c,H a=⇑c->a≠l->¬ U a->¬ W a->b a=⇑c)/\∀ a c,H a=⇑(.tup c)->b a=⇑(.tup c)
def ID.trans{l:Addr}{U W c d j k:Y1}{H g m:Hp}(f:ID l U W c d H g)(h:∃ o,g l=⇑o)(i:ID l c d j k g m):ID l U W j k H m:=by
 let q:∀ a,c a\/d a\/g a=none->U a\/W a\/H a=none:=by
  intro a z;rcases z with z|z|z
  ·exact f.1 a (.inl z)
  ·exact f.1 a (.inr z)
  by_cases u:U a
  ·exact .inl u
  by_cases v:W a
  ·exact .inr (.inl v)
  refine .inr (.inr ?_)
  cases e:H a with
  | none=>rfl
  | some b =>
   exfalso;by_cases n:a=l
   ·let⟨o,h⟩:=h;rw[n,h]at z;cases z
   rw[f.2.1 _ _ e n u v]at z;cases z
 let p:∀ a b,H a=⇑b->¬ U a->¬ W a->¬ c a/\¬ d a:=by
  intro a b e u v;refine⟨λz=>?_,λz=>?_⟩
  ·rcases f.1 a (.inl z) with y|y|y
   ·exact u y
   ·exact v y
   ·rw[y]at e;cases e
  ·rcases f.1 a (.inr z) with y|y|y
   ·exact u y
   ·exact v y
   ·rw[y]at e;cases e
 exact⟨λa z=>q a (i.1 a z),λa b e n u v=>i.2.1 _ _ (f.2.1 _ _ e n u v) n (p a b e u v).1 (p a b e u v).2,λa a e=>i.2.2 _ _ (f.2.2 _ _ e)⟩
def oR.mv{C:Addr}{H b:Hp}{l c w x:Addr}{U W:Y1}{f:gT}{g:dD}{i:gT}{j:dD}{m:gS}{n:fY}{o:Nat × Kd}{p:Row}(h:oR C q r u H l c w x U W f g i j m n o p)(k:cD l H b)(s:dM b l c):oR C q r u b l c w x U W f g i j m n o p:=by
 let⟨a,v⟩:=h.src.lst;let t:∀ a d,H a=⇑(.tup d)->b a=⇑(.tup d):=λa d e=>k _ _ e (cS e v);exact⟨s,h.Dp.fr (λa d e z=>k _ _ e (h.du a z).2.1) t,h.lst,h.wo.fr (λa d e z=>k _ _ e (h.dw a z).1) t,h.du,h.dw⟩
theorem oR.same{C:Addr}{H a:Hp}{l c w x:Addr}{U W:Y1}{b:gT}{d:dD}{e:gT}{f:dD}{g:gS}{h:fY}{i:Nat × Kd}{j:Row}(k:oR C m n o H l c w x U W b d e f g h i j)(s:aJ H a):oR C m n o a l c w x U W b d e f g h i j:=k.mv (λp q r _=>s p q r) (k.src.same s)
def Hf{c:Type}{a:List c}{v:Int}(d:0<=v)(e:v<↑a):∃ x∈a,oU a v=⇑x:=by
 obtain⟨j,rfl⟩:∃ j:Nat,v=j:=⟨v.toNat,by lia⟩;let b:j<↑a:=by lia
 exact⟨a[j],List.getElem_mem b,dh (nT b)⟩
def oR.WO{W b:Y1}{H:Hp}{w rw:Addr}{c:fY}{d:gT}{f:dD}(h:IB 1000 g W H w i rw j k c d f)(s:∀ a,W a->b a)(l:∀ a,b a->∃ m,H a=⇑m):IB 1000 g b H w i rw j k c d f:=by
 let⟨ww,wi,wp,wv,_,hw,hi,hr,⟨n,o,p⟩,ne,lst,hv,nv⟩:=h;exact⟨s _ ww,s _ wi,s _ wp,s _ wv,l,hw,hi,hr.fr s (λa q e _ _ _=>e),⟨n,o,p.mono λv n ⟨a,e,z⟩=>⟨a,e,z.fr s (λa q e _ _ _=>e)⟩⟩,ne,lst,hv,nv⟩
def dM.oT{U d:Y1}{H a:Hp}{l c:Addr}(e:dM H l c)(b:rT U d H a)(f:¬ U l)(g:¬ U c):dM a l c:=by
 let⟨n,h,i,j,r,k,m,o⟩:=e;exact⟨n,h,i,j,r,b.2.1 _ _ k f,b.2.1 _ _ m g,o⟩
def oR.o0{C:Addr}{H c:Hp}{l f w x:Addr}{U d W:Y1}{u g:gT}{v k:dD}{m:gT}{n:dD}{A o:gS}{h:fY}{B p:Nat × Kd}{i:Row}(St:oR C q r t H l f w x U W u v m n A h B i)(D:mL C q r t d c x g o h p i)(G:g.getLast?=⇑k)(b:rT U d H c):oR C q r t c l f w x d W g k m n o h p i/\ID l U W d W H c:=by
 refine⟨⟨St.src.oT b (λz=>(St.du l z).2.1 rfl) (λz=>(St.du f z).2.2 rfl),D,G,St.wo.fr (λa j e z=>b.2.1 _ _ e (λy=>(St.du a y).1 z)) b.2.2,λa z=>?_,St.dw⟩,λa z=>z.elim (λz=>(b.1 a z).elim .inl λy=>.inr (.inr y)) (λz=>.inr (.inl z)),λa j e _ s _=>b.2.1 a j e s,b.2.2⟩;rcases b.1 a z with y|y
 ·exact St.du a y
 ·let a:=St.src.ne y;refine⟨λz=>?_,a.1.symm,a.2.symm⟩;let⟨j,e⟩:=St.wo.al z;rw[y]at e;cases e
def oR.off{C:Addr}{H b:Hp}{l c w x r:Addr}{p:List V}{U W:Y1}{f:gT}{g:dD}{h:gT}{i:dD}{j:gS}{m:fY}{n:Nat × Kd}{o:Row}(St:oR C u v y H l c w x U W f g h i j m n o)(A:H r=⇑(.lst p))(B:¬ U r)(D:¬ W r)(G:r≠l)(I:r≠c)(k:cD r H b):oR C u v y b l c w x U W f g h i j m n o:=by
 let t:∀ a d,H a=⇑(.tup d)->b a=⇑(.tup d):=λa d e=>k _ _ e (cS e A);refine⟨?_,St.Dp.fr (λa d e z=>k _ _ e (λq=>B (q ▸ z))) t,St.lst,St.wo.fr (λa d e z=>k _ _ e (λq=>D (q ▸ z))) t,St.du,St.dw⟩;let⟨a,d,e,q,s,t,z,F⟩:=St.src;exact⟨a,d,e,q,s,k _ _ t G.symm,k _ _ z I.symm,F⟩
def oR.kept{C:Addr}{H c:Hp}{l d w x:Addr}{U W b:Y1}{j:gT}{k:dD}{t m:gT}{u n:dD}{o:gS}{e:fY}{p:Nat × Kd}{f:Row}(St:oR C v y A H l d w x U W j k t u o e p f)(wo:Wo 1000 f b c w e m n)(q:∀ a,U a->¬ b a)(g:∀ a,b a->a≠l/\a≠d)(h:∀ a i,H a=⇑i->¬ b a->c a=⇑i)(B:∀ a r,H a=⇑(.tup r)->c a=⇑(.tup r)):oR C v y A c l d w x U b j k m n o e p f:=by
 refine⟨?_,St.Dp.fr (λa i s z=>h _ _ s (q a z)) B,St.lst,wo,λa z=>⟨q a z,(St.du a z).2⟩,g⟩;let⟨s,D,F,G,I,J,L,M⟩:=St.src;exact⟨s,D,F,G,I,h _ _ J (λz=>(g l z).1 rfl),h _ _ L (λz=>(g d z).2 rfl),M⟩
def oR.new{C:Addr}{H:Hp}{l c w x a:Addr}{U W:Y1}{b:gT}{d:dD}{f:gT}{g:dD}{i:gS}{j:fY}{k:Nat × Kd}{m:Row}(St:oR C p q r H l c w x U W b d f g i j k m)(h:H a=none):¬ U a/\¬ W a/\a≠l/\a≠c:=by
 let n:=St.src.ne h;refine⟨λz=>?_,λz=>?_,n.1.symm,n.2.symm⟩
 ·let⟨o,e⟩:=St.Dp.al z;rw[h]at e;cases e
 ·let⟨o,e⟩:=St.wo.al z;rw[h]at e;cases e
def own(a:dD)(x:Int):Wp:=(a[x.toNat]?).getD []
def Hg{a:dD}{s:Nat}(b:Wp)(h:s<↑a):iW a s b=a.set s b:=by
 unfold iW;rw[List.set_eq_take_append_cons_drop,if_pos h,j4];rfl
theorem Hh{k:Nat}:∀ {a:Row},(∀ p∈a,p.2<=p.1+(k:Nat))->↑(bg a)<=k*↑a
 | [],_=>mR _
 | p::r,h=>by
  let b:=Hh (a:=r) λq b=>h q (j0 _ b);have b:=h p (qx ..);have e:bg (p::r)=gG p++bg r:=by unfold bg;rw[i7]
  rw[e,cY,kH,Nat.mul_add,Nat.mul_one];have:↑(gG p)<=k:=by unfold gG;rw[fC];lia
  lia
def Rw{n:Nat}{a:Row}(h:∀ p∈a,0<=p.1/\p.1<p.2/\p.2<=(n:Nat)){e:Int}(b:e∈bg a):0<=e/\e<(n:Nat):=by
 unfold bg at b;let⟨p,c,d⟩:=List.mem_flatMap.mp b;let f:=h p c;let m:=vD.mp d;lia
class inductive Zk
 | mk (r e:Addr) (s:Nat) (a:List V) (_:vs=[↥r,.int (s:Nat),↥e]) (_:H r=⇑(.lst a)) (_:s<↑a) (_:↑a<=1000) (_:∀ (q:Addr) (b:Hp),b q=⇑(.lst (a.set s ↥e))->aJ H b->H q=none->Q ↥q b)
def Vm{n:Nat}{i:Nat}(a:i<n):Lk n ((i:Nat):Int)=⇑i:=by
 unfold Lk;rw[if_pos ∅,Int.toNat_natCast,if_pos ∅]
theorem yk:‹(1,97,["d","e","_law_entries"],Zk)›:=λD=>by
 specialize eZ ["d","e","_law_entries","r"] D.YB.F;let⟨r,e,s,c,rfl,a,b,d,k⟩:=h;exists _,#v[aY 3 (fP gK rfl D.T.jv tR #[0]),mS (pv 2) (oY (pv 3) (pv 1) jH),aK (pv 3)]
 rfl'
 refine⟨Y,r,Y,.inl (bJ.of a),λq a=>?_⟩;refine⟨Y,Y,Y,q,E,s,V,af,Vm b,Y,k q _ af (bQ a (ao a _) (aI q _ _)) a⟩
def Wo.swap{W:Y1}{H:Hp}{w rw q e:Addr}{i:fY}{j:gT}{f:dD}{m:List V}{s:Nat}{k:Wp}(b:IB 1000 n W H w c rw d o i j f)(y:H rw=⇑(.lst m))(p:H q=⇑(.lst (m.set s ↥e)))(r:H e=⇑(.lst (k.map V.int)))(u:¬ W q)(v:¬ W e):IB 1000 n (λa=>W a\/a=e\/a=q) H w c rw d o i j f/\Ov (λa=>W a\/a=e\/a=q) c d H q (f.set s k):=by
 let l:IB 1000 n (λa=>W a\/a=e\/a=q) H w c rw d o i j f:=oR.WO b (λa z=>.inl z) (by
  rintro a (z|z|z)
  ·exact b.al a z
  ·rw[z];exact⟨_,r⟩
  ·rw[z];exact⟨_,p⟩)
 let⟨_,_,_,g,x,al⟩:=id l.hr;rw[y]at x;cases x;let h:∀ {a x:Addr},W a->¬ W x->x≠a:=λx A z=>A (by rw[z];exact x);exists l,.inr (.inr rfl),h b.wi u,h b.wp u,_,p
 let B:∀ {g:List V} {l:dD} (s:Nat),cP (WN (λa=>W a\/a=e\/a=q) c d H) g l->cP (WN (λa=>W a\/a=e\/a=q) c d H) (g.set s ↥e) (l.set s k):=by
  intro g l s z
  induction z generalizing s with
  | nil=>exact .nil
  | cons C t D =>
   cases s with
   | zero=>exact .cons ⟨e,1,.inr (.inl rfl),h b.wi v,h b.wp v,r⟩ t
   | succ g=>exact .cons C (D g)
 exact B s al
theorem ED:‹(1,98,["9"],(Tr 1000000))›:=λD=>by
 refine eZ ["9","k","x","T"] D.on.F λdc A zn s H vs Q E hr _ h=>?_;let⟨r,row,rfl,⟨j,e,c⟩,l,m,p,k⟩:=h;exists _,#v[aY 1 (bM ah),eO PassesOwn.never rfl (cC (pv 0)) (j6 (n:=2) rfl (bR (bW 2) (bR (bW 3) gB))) #v[aT (dZ oS PySem.F.slot_list_extend PySem.F.type_list_extend jC (pv 1) #[fP (tH rfl) rfl D.T.jv tR #[fP FW rfl D.T.jO PyProof.Rows.boot_range #[2,3]]])],aK (pv 1)]
 rfl'
 refine⟨iz,λq f=>?_⟩;let s0:aJ H (aO H q (.lst [])):=ao f _;refine⟨Y,r,1,⟨_,bJ.of (s0 _ _ e)⟩,dG (K:=bV) (e:=r) (b:=j.map V.ref) (λi d a=>∃ (u v:Option V),d=[⇑↥r,⇑↥q,u,v]/\a q=⇑(.lst ((bg (row.take i)).map V.int))/\aJ H a) ⟨none,none,1,af,s0⟩ (by rintro i d a _ ⟨_,_,_,_,s⟩;exact bJ.of (s _ _ e)) ?_ ?_⟩
 ·rintro i x d a g ⟨u,v,rfl,b,s⟩;rw[kB]at g;let⟨n,o,rfl⟩:=Option.map_eq_some_iff.mp g;let⟨⟨e,g⟩,j,p⟩:=c.get o;let⟨o,r,t⟩:=l _ (mC j);simp only at o r t;let step:=zW j
  let j:↑(bg (row.take i))+(g-e).toNat<=1000000:=by
   let z:=tK row (i+1);rw[step,cY,gG,fC]at z;exact iG z m
  exists n,Y,dN.of (s _ _ p),1,E,1,Z;refine⟨Y,.inl ⟨1,_,bJ.of b⟩,Y,Y,E,1,λp c=>⟨p,E,1,af,⟨by lia,by lia,by lia,by lia⟩,gV (aQ ∅),λm j=>?_⟩⟩;let l:aJ a (aO a p (.Fq e g)):=ao c _;let i:=l.trans (ao j (.lst (CC e (g-e).toNat)));exists q,m,Z,i _ _ b,af,?_
  ·rw[b8,zV,b8,fC];exact gV (aQ ∅)
  ·refine⟨E,1,?_,bQ f (s.trans i) (aI q _ _)⟩;rw[af,step,gm,zV];rfl
 ·rintro d a ⟨u,v,rfl,b,s⟩;refine⟨Y,k q a ?_ s f⟩;rw[b8,c.len,gQ]at b;exact b
class inductive AX(d:Nat)
 | mk (f:Y1) (r:Addr) (a:dD) (x:Int) (b:Y2) (c:Int->Nat) (_:vs=[↥r,.int x]) (_:iM f H r a) (_:↑a<=1000) (_:gZ a) (_:0<=x) (_:x<↑a) (_:nh a b) (_:(∀ x:Int,0<=x->x<↑a->↑(b x)<=10000)) (_:(∀ x y,jX a x y->c y<c x)) (_:c x<d) (_ :
 ∀ (o:Addr) (e:Hp),e o=⇑(.lst ((b x).map V.int))->aJ H e->H o=none->Q ↥o e)
def BI(D:bS){n:Nat}(G:aZ cX bf bV cW cV cQ (n+1) (dQ 99) (dR 99) ["d","e"] (AX n)):aZ cX bf bV cW cV cQ (n+2) (dQ 99) (dR 99) ["d","e"] (AX (n+1)):=by
 refine eZ ["d","e","k","w"] D.Gw.F λM S W s H X Q E o _ F=>?_;let⟨I,r,k,x,a,J,rfl,R,L,v,l,M,w,y,A,S,N⟩:=F;obtain⟨b,m⟩:∃ b,k[x.toNat]?=⇑b:=⟨_,nT ∅⟩;let⟨F,g,O,S,p,W⟩:=R.get m
 let T:oU F x=⇑↥g:=by
  let z:=dh S;rw[show ((x.toNat:Nat):Int)=x by lia]at z;exact z
 let B:=w x b l m
 let U:∀ i,↑(aW a (b.take i))<=10000:=λi=>by
  let z:=y x l M
  let e:aW a b=aW a (b.take i)++aW a (b.drop i):=by
   unfold aW;rw[← List.flatMap_append,List.take_append_drop]
  rw[B,e,cY]at z;lia
 exists _,#v[aY 2 (bM ah),eO PassesOwn.never rfl (cC (aR bK (pv 0) (pv 1))) (bW 3) #v[bN (aV kJ (pv 3) az (bz _)) #v[aT (dZ oS PySem.F.slot_list_extend PySem.F.type_list_extend jC (pv 2) #[aF D.Gw G o #[0,bG dH (iE gf az) (pv 3)]])] #v[aT (dZ oS jE jF bX (pv 2) #[3])]],aK (pv 2)]
 rfl'
 refine⟨iz,λq h=>?_⟩;let o:aJ H (aO H q (.lst [])):=ao h _;refine⟨Y,Y,r,Q,V,bJ.of (o _ _ O),T,g,1,⟨_,bJ.of (o _ _ p)⟩,dG (K:=bV) (e:=g) (b:=b.map V.int) (λi j f=>∃ u:Option V,j=[⇑↥r,⇑(.int x),⇑↥q,u]/\f q=⇑(.lst ((aW a (b.take i)).map V.int))/\aJ H f) ⟨none,1,af,o⟩ (by rintro i j f _ ⟨_,_,_,c⟩;exact bJ.of (c _ _ p)) ?_ ?_⟩
 ·rintro i e j f t ⟨u,rfl,d,c⟩;rw[kB]at t;let⟨e,C,rfl⟩:=Option.map_eq_some_iff.mp t
  let g:aW a (b.take (i+1))=aW a (b.take i)++bq a e:=by
   rw[take_snoc C];unfold aW;rw[List.flatMap_append];simp
  let o:=U (i+1);rw[g,cY]at o;refine⟨Y,Z,Y,dO (λi=>?_) (λi=>?_)⟩
  ·let p:e<0:=of_decide_eq_true i;let t:bq a e=a (-1-e):=by unfold bq;rw[if_pos p]
   rw[t]at g o;let z:jX k x (-1-e):=⟨l,b,m,cR.mpr ⟨by lia,by rw[show -1-(-1-e)=e by lia];exact mC C⟩⟩;let⟨b,l⟩:=v.Fg z;let m:=A _ _ z;refine⟨Y,.inl ⟨1,_,bJ.of d⟩,Y,Y,Y,Z,I,r,k,-1-e,a,J,1,R.same c,L,v,b,l,w,y,A,by lia,λk m l b r=>?_⟩;refine⟨q,k,Z,b _ _ d,l,gV (aQ (by rw[b8,b8];lia)),?_⟩;refine⟨Y,?_,bQ h (c.trans b) (aI q _ _)⟩;rw[af,g,gm]
  ·let p:¬ e<0:=λz=>i (decide_eq_true z);have t:bq a e=[e]:=by unfold bq;rw[if_neg p]
   rw[t]at g o;refine⟨Y,.inl ⟨1,_,bJ.of d⟩,Y,q,Z,d,(by rw[b8];exact aQ ∅),?_⟩;refine⟨Y,?_,bQ h c (aI q _ _)⟩;rw[af,g,gm];rfl
 ·rintro j f ⟨u,rfl,d,c⟩;rw[b8,gQ,← B]at d;exact⟨Y,N q f d c h⟩
theorem iR(D:bS):∀ n:Nat,aZ cX bf bV cW cV cQ (n+1) (dQ 99) (dR 99) ["d","e"] (AX n)
 | 0=>by
  let b:∀ a H Q E,¬ AX 0 a H Q E:=λa H Q E h=>by
   let⟨_,_,_,_,_,_,_,_,_,_,_,_,_,_,_,h,_⟩:=h;exact Nat.not_lt_zero _ h
  exact⟨λa H Q E h=>absurd h (b a H Q E),λA c s H args d a Q E _ _ _ _ h=>absurd h (b a H Q E)⟩
 | n+1=>BI D (iR D n)
def Ow(a:dD):Nat->Int->List Int
 | 0,_=>[]
 | k+1,x=>match a[x.toNat]? with
  | some es=>aW (Ow a k) es
  | none=>[]
def qZ{f g:Y2}{a:Wp}(h:∀ y∈fj a,f y=g y):aW f a=aW g a:=by
 unfold aW;rw[List.flatMap_def,List.flatMap_def];congr 1;refine uN λe b=>?_;unfold bq;by_cases c:e<0
 ·rw[if_pos c,if_pos c,h (-1-e) (cR.mpr ⟨by lia,by rw[show -1-(-1-e)=e by lia];exact b⟩)]
 ·rw[if_neg c,if_neg c]
def AY{a:dD}(h:DU a):∃ f,nh a f:=by
 let⟨b,g,i⟩:=h
 let j:∀ (k:Nat) (x:Int),0<=x->b x<k->Ow a k x=Ow a (k+1) x:=by
  intro k
  induction k with
  | zero=>intro x _ h;lia
  | succ k l =>
   intro x c b
   cases e:a[x.toNat]? with
   | none=>simp[Ow,e]
   | some b =>
    let d:Ow a (k+1) x=aW (Ow a k) b:=by simp[Ow,e]
    let m:Ow a (k+1+1) x=aW (Ow a (k+1)) b:=by
     show (match a[x.toNat]? with|some b=>aW (Ow a (k+1)) b|none=>[])=_;rw[e]
    rw[d,m];refine qZ λy d=>l y (cR.mp d).1 ?_;have:=i x y ⟨c,b,e,d⟩;lia
 refine⟨Ow a 41,λx b c d=>?_⟩;rw[j 41 x c (by have:=g x;lia)];show (match a[x.toNat]? with|some b=>aW (Ow a 41) b|none=>[])=_;rw[d]
def AZ(n:Nat)(L:Wp):Nat:=cnt n λi=>decide ((i:Int)∉L)
def NZ{n:Nat}{L:Wp}{y:Int}(d:0<=y)(e:y<n)(a:y∉L):AZ n (L++[y])+1=AZ n L:=by
 refine vB y.toNat n ∅ ?_ λi=>?_
 ·show decide (((y.toNat:Nat):Int)∉L)=true;rw[show ((y.toNat:Nat):Int)=y by lia];exact decide_eq_true a
 ·show decide ((i:Int)∉L++[y])=(decide ((i:Int)∉L)&&decide (i≠y.toNat));rw[← Bool.decide_and];congr 1;rw[List.mem_append,List.mem_singleton];apply propext;constructor
  ·intro h;exact⟨λq=>h (.inl q),λq=>h (.inr ∅)⟩
  ·rintro⟨b,c⟩ (q|q)
   ·exact b q
   ·exact c ∅
def EE(a b:Wp):fj (a++b)=fj a++fj b:=by unfold fj;rw[List.filterMap_append]
structure o4(rows:dD)(H:Hp)(Rr Wt:Addr)(s:Int)(wg:Int->Prop)(H2:Hp)(L ws:Wp):Prop where
 hR:H2 Rr=⇑(.lst (L.map V.int))
 hW:H2 Wt=⇑(.lst (ws.map V.int))
 sm:aJ H H2
 rc:∀ x∈L,Reach (jX rows) s x
 wr:∀ x∈ws,(x=s\/x∈L)/\0<=x/\x<↑rows
 kl:↑L+AZ ↑rows L<=↑rows
 cl:∀ x,(x=s\/x∈L)->x∈ws\/wg x\/∀ y,jX rows x y->y∈L
class inductive N1
 | mk (c:Y1) (r:Addr) (a:dD) (s:Int) (_:vs=[↥r,.int s]) (_:iM c H r a) (_:↑a<=1000) (_:(∀ d∈a,↑d<=100000)) (_:gZ a) (_:0<=s) (_:s<↑a) (_ :
 ∀ (L:Wp) (o:Addr) (b:Hp),b o=⇑(.lst (L.map V.int))->aJ H b->(∀ x,x∈L↔Reach (jX a) s x)->Q ↥o b)
def hF(n:Nat)(L a:Wp):Nat:=2*AZ n L+↑a
def WQ(a:dD)(H:Hp)(r c d:Addr)(s:Int)(m:Nat)(e:_L2.St)(f:Hp):Prop:=∃ (L b:Wp) (u v:Option V),e=[⇑↥r,⇑(.int s),⇑↥c,⇑↥d,u,v]/\o4 a H c d s (λ_=>False) f L b/\↑b+2*AZ ↑a L<=2*↑a+1/\m=hF ↑a L b
theorem A0:‹(1,100,["d","e"],N1)›:=λD=>by
 specialize eZ ["d","e","_law_reached_here","_law_waiting","_law_here","w"] D.Wi.F;let⟨av,r,e,s,rfl,ae,eT,W,pV,h0,h1,X⟩:=h;let hu:=gM hr;exists _,#v[aY 2 (bM ah),aY 3 (bM #[1]),qD PassesOwn.never (aV za (fR D.T.fE (pv 3)) az (bz _)) #v[aY 4 (DL oS PySem.F.slot_list_pop PySem.F.type_list_pop O1 (pv 3)),eO PassesOwn.never rfl (cC (aR bK (pv 0) (pv 4))) (bW 5) #v[bN (PW.pt (oW (aV kJ (pv 5) az (bz _)) (lZ (aV o6 (bG dH (iE gf az) (pv 5)) (pv 2) rfl)))) #v[aT (dZ oS jE jF bX (pv 2) #[bG dH (iE gf az) (pv 5)]),aT (dZ oS jE jF bX (pv 3) #[bG dH (iE gf az) (pv 5)])] bu]],aK (pv 2)]
 rfl'
 refine⟨iz,λf R=>?_⟩;refine⟨Y,mh,λd o=>?_⟩;let S:aJ H (aO H f (.lst [])):=ao R _;let s2:=S.trans (ao o (.lst [.int s]))
 let T:H d=none:=by
  cases b:H d with
  | none=>rfl
  | some a=>exact absurd ((S _ _ b).symm.trans o) (by simp)
 let C:f≠d:=aB af o;exists WQ e H r f d s,⟨_,[],[s],none,none,1,⟨ao o _ _ _ af,af,s2,?_,?_,?_,?_⟩,?_,1⟩
 ·intro x b;cases b
 ·intro x b;have:x=s:=by simpa using b
  exact⟨.inl this,by lia,by lia⟩
 ·have:=Aj ↑e (λi=>decide ((i:Int)∉([]:Wp)));show 0+cnt ↑e _<=_;lia
 ·rintro x (rfl|b)
  ·exact .inl (by simp)
  ·cases b
 ·have:=Aj ↑e (λi=>decide ((i:Int)∉([]:Wp)));show 1+2*cnt ↑e _<=_;lia
 rintro ag m U ⟨L,ws,ai,v,rfl,B,F,rfl⟩;exists Y,d,Y,.inl (bJ.of B.hW),Z,Y;rcases lY ws with rfl|⟨k,h,rfl⟩
 ·refine fT ⟨Y,X L f U B.hR B.sm λx=>⟨λb=>B.rc x b,λb=>?_⟩⟩
  let cV:∀ x,(x=s\/x∈L)->∀ y,jX e x y->y∈L:=λx b=>by
   rcases B.cl x b with z|z|z
   ·cases z
   ·exact z.elim
   ·exact z
  exact Reach.closed (a:=λy=>y∈L) (cV s (.inl rfl)) (λx y b=>cV x (.inr b) y) b
 rw[j3]at B F ⊢;refine dO (λ_=>?_) (λz=>absurd (decide_eq_true (by simp)) z);let⟨ag,o,ai,ak,S,am,an⟩:=id B;let⟨G,e0,X⟩:=S h (by simp);obtain⟨j,p⟩:∃ j,e[h.toNat]?=⇑j:=⟨_,nT ∅⟩;let X:=W j (mC p);refine⟨fun W X=>∃ m',m'<hF ↑e L (k++[h])/\WQ e H r f d s m' W X,fun W X z=>z,?_⟩;refine⟨Y,.inl ⟨1,_,bJ.of o⟩,d,_,.int h,V,o,(by simp),?_⟩;let o:((k++[h]).map V.int).dropLast=k.map V.int:=by simp
 rw[o];let o:aJ H (aO U d (.lst (k.map V.int))):=bQ T ai (aI d _ _);let⟨yz,U,W,X,ab,ai⟩:=ae.get p;let ae:=o _ _ ab;refine⟨Y,Y,r,Q,V,bJ.of (o _ _ W),?_,U,1,⟨_,bJ.of ae⟩,dG (K:=bV) (e:=U) (b:=j.map V.int) (λi m n=>∃ (_L2 g:Wp) (v:Option V),m=[⇑↥r,⇑(.int s),⇑↥f,⇑↥d,⇑(.int h),v]/\ o4 e H f d s (λx=>x=h) n _L2 g/\(∀ y∈fj (j.take i),y∈_L2)/\(∀ y∈L,y∈_L2)/\g.length+2*AZ ↑e _L2<=k.length+2*AZ ↑e L) ?_ ?_ ?_ ?_⟩
 ·let z:=dh X;rw[show ((h.toNat:Nat):Int)=h by lia]at z;exact z
 ·refine⟨L,k,Y,⟨(by rw[aN C];exact ag),af,o,ak,λx b=>S x (nC _ b),am,λx b=>?_⟩,(λy c=>by simp[fj]at c),λ_ q=>q,fF _⟩;rcases an x b with z|z|z
  ·rcases List.mem_append.mp z with q|q
   ·exact .inl q
   ·exact .inr (.inl (by simpa using q))
  ·exact z.elim
  ·exact .inr (.inr z)
 ·rintro i m n _ ⟨_,_,_,_,a,_⟩;exact bJ.of (a.sm _ _ ab)
 ·rintro i x m n hi ⟨_L2,g,v,rfl,a,l,t,I⟩;rw[kB]at hi;let⟨x,ex,rfl⟩:=Option.map_eq_some_iff.mp hi;let step:fj (j.take (i+1))=fj (j.take i)++fj [x]:=by rw[take_snoc ex,EE]
  refine⟨Y,Z,Y,dO (λJ=>?_) (λJ=>fT ?_)⟩
  ·let M:x<0:=of_decide_eq_true J;let u:fj [x]=[-1-x]:=by simp[fj,M]
   let N:jX e h (-1-x):=⟨e0,j,p,by
    rw[cR]
    exact⟨by lia,by rw[show -1-(-1-x)=x by lia];exact mC ex⟩⟩
   let⟨y0,y1⟩:=pV.Fg N;exists Y,Y,Z,Y,f,Y,.inl (bJ.of a.hR),1,mF _L2,Y;rw[vC];by_cases w:-1-x∈_L2
   ·rw[decide_eq_true w];refine fT ?_;refine⟨_L2,g,Y,a,(λy c=>?_),t,I⟩;rw[step,u]at c;rcases List.mem_append.mp c with q|q
    ·exact l y q
    ·have:y=-1-x:=by simpa using q
     rw[this];exact w
   ·rw[decide_eq_false w];refine iK ?_;let e:=a.kl;let e:=NZ y0 y1 w;refine⟨Y,.inl ⟨1,_,bJ.of a.hR⟩,Y,Y,Z,f,Z,a.hR,(by rw[b8];exact aQ ∅),?_⟩;let e:(aO n f (.lst (_L2.map V.int++[.int (-1-x)]))) d=⇑(.lst (g.map V.int)):=by rw[aN C.symm];exact a.hW
    refine⟨Y,.inl ⟨1,_,bJ.of e⟩,Y,Y,Z,d,Z,e,(by rw[b8];rw[cY,iA]at F;exact aQ ∅),?_⟩;refine⟨_L2++[-1-x],g++[-1-x],Y,⟨?_,?_,bQ T (bQ R a.sm (aI f _ _)) (aI d _ _),?_,?_,?_,?_⟩,?_,λy q=>nC _ (t y q),?_⟩
    ·rw[aN C,af,gm];rfl
    ·rw[af,gm];rfl
    ·intro y c;rcases List.mem_append.mp c with q|q
     ·exact a.rc y q
     ·have:y=-1-x:=by simpa using q
      subst this;rcases G with rfl|G
      ·exact .one N
      ·exact .step (B.rc h G) N
    ·intro y c;rcases List.mem_append.mp c with q|q
     ·let⟨b,d⟩:=a.wr y q;exact⟨b.imp id (nC _),d⟩
     ·have:y=-1-x:=by simpa using q
      subst this;exact⟨.inr (by simp),y0,y1⟩
    ·rw[cY,iA];lia
    ·intro y c;by_cases b:y=-1-x
     ·exact .inl (by rw[b];simp)
     ·let O:y=s\/y∈_L2:=c.imp id λq=>by
       rcases List.mem_append.mp q with z|z
       ·exact z
       ·exact absurd (by simpa using z) b
      rcases a.cl y O with q|q|q
      ·exact .inl (nC _ q)
      ·exact .inr (.inl q)
      ·exact .inr (.inr λz b=>nC _ (q z b))
    ·intro y c;rw[step,u]at c;rcases List.mem_append.mp c with q|q
     ·exact nC _ (l y q)
     ·exact mP _ q
    ·rw[cY,iA];lia
  ·let M:¬ x<0:=λz=>J (decide_eq_true z);have u:fj [x]=[]:=by simp[fj,M]
   exact⟨_L2,g,Y,a,(by rw[step,u,ir];exact l),t,I⟩
 ·rintro m n ⟨_L2,g,v,rfl,a,l,t,I⟩;rw[b8,gQ]at l;refine⟨_,?_,_L2,g,E,1,⟨a.hR,a.hW,a.sm,a.rc,a.wr,a.kl,λx b=>?_⟩,?_,1⟩
  ·unfold hF;rw[cY,iA];lia
  ·rcases a.cl x b with q|rfl|q
   ·exact .inl q
   ·refine .inr (.inr λy c=>l y ?_);let⟨_,a,i,O⟩:=c;rw[p]at i;cases i;exact O
   ·exact .inr (.inr q)
  ·rw[cY,iA]at F;lia
theorem pH(a:Y2)(b:Wp)(i:Nat):↑(aW a (b.take i))<=↑(aW a b):=iV (bq a) b i
class inductive xy(d:Nat)
 | mk (g:Y1) (r:Addr) (a:dD) (e:Int) (b:Y2) (c:Int->Nat) (_:vs=[↥r,.int e]) (_:iM g H r a) (_:↑a<=1000) (_:gZ a) (_:nh a b) (_:(∀ x:Int,0<=x->x<↑a->↑(b x)<=10000)) (_:(∀ x y,jX a x y->c y<c x)) (_:(e<0->-1-e<↑a/\c (-1-e)<d)) (_ :
 ∀ (o:Addr) (f:Hp),f o=⇑(.lst ((bq b e).map V.int))->aJ H f->H o=none->Q ↥o f)
def tO(D:bS){d:Nat}:aZ cX bf bV cW cV cQ (d+2) (dQ 101) (dR 101) ["d","w"] (xy d):=by
 specialize eZ ["d","w"] D.Ql.F;let⟨b,r,f,e,g,i,rfl,R,j,l,m,n,o,p,k⟩:=h;exists _,#v[bN (aV kJ (pv 1) az (bz _)) #v[aK (aF D.Gw (iR D d) hr #[0,bG dH (iE gf az) (pv 1)])] bu,aK (bM #[1])]
 rfl'
 refine⟨Y,Z,Y,dO (λc=>?_) (λc=>?_)⟩
 ·let a:e<0:=of_decide_eq_true c;let⟨q,s⟩:=p a;refine⟨Y,Y,Y,Z,b,r,f,-1-e,g,i,1,R,j,l,by lia,q,m,n,o,s,λo f h s0 b=>k o f ?_ s0 b⟩;unfold bq;rw[if_pos a];exact h
 ·let a:¬ e<0:=λz=>c (decide_eq_true z);refine⟨Y,mh,λo b=>k o _ ?_ (ao b _) b⟩;unfold bq;rw[if_neg a,af];rfl
theorem EF(a:Y2)(p:Int):∀ (b:Wp) (f:Int),↑(aE a p f b)<=↑b+↑(aW a b)
 | [],_=>by simp[aE]
 | e::r,f=>by
  rw[aE,cF,cY,cY,kH];let c:=EF a p r (f+↑(bq a e))
  let c:↑(if f+↑(bq a e)<=p then [e] else if p<=f then [] else (bq a e).take (p-f).toNat)<=1+↑(bq a e):=by
   split
   ·simp
   ·split
    ·simp
    ·rw[gI];lia
  lia
theorem EG(a:Y2)(p:Int):∀ (b:Wp) (f:Int),↑(bE a p f b)<=↑b+↑(aW a b)
 | [],_=>by simp[bE]
 | e::r,f=>by
  rw[bE,cF,cY,cY,kH];let c:=EG a p r (f+↑(bq a e))
  let c:↑(if f+↑(bq a e)<=p then [] else if p<=f then [e] else (bq a e).drop (p-f).toNat)<=1+↑(bq a e):=by
   split
   ·simp
   ·split
    ·simp
    ·rw[qy];lia
  lia
class inductive J2(d:Nat)
 | mk (h:Y1) (r n:Addr) (a:dD) (s p:Int) (c:Wp) (e:Y2) (f:Int->Nat) (_:vs=[↥r,.int s,.int p,↥n]) (_:iM h H r a) (_:↑a<=1000) (_:(∀ b∈a,↑b<=25000)) (_:gZ a) (_:nh a e) (_:(∀ x:Int,0<=x->x<↑a->↑(e x)<=10000)) (_:(∀ x y,jX a x y->f y<f x)) (_:0<=s) (_:s<↑a) (_:f s<=d) (_:H n=⇑(.lst (c.map V.int))) (_:↑c<=25000) (_ :
 ∀ (b:Wp) (o:Addr) (g:Hp),a[s.toNat]?=⇑b->g o=⇑(.lst ((gy e p b c).map V.int))->↑(gy e p b c)<=100000->aJ H g->H o=none->Q ↥o g)
def J3(D:bS){u:Nat}:aZ cX bf bV cW cV cQ (u+3) (dQ 102) (dR 102) ["d","e","W","_law_new"] (J2 u):=by
 let R:aZ cX bf bV cW cV cQ (u+2) _ _ ["d","w"] (xy u):=tO D;specialize eZ ["d","e","W","_law_new","_law_ahead","_law_behind","_law_first","w","_law_pieces_here","_law_last"] D.Gx.F;let⟨av,v,L,M,s,p,w,a,rk,rfl,ab,eT,T,pV,xO,Fi,yx,N,h1,hd,hn,nl,ae⟩:=h;obtain⟨b,j⟩:∃ b,M[s.toNat]?=⇑b:=⟨_,nT ∅⟩;let ag:=T b (mC j);let T:=xO s b N j;let ag:=Fi s N h1;rw[T]at ag;let⟨T,x,yf,Eg,O,ag⟩:=ab.get j
 let vK:oU T s=⇑↥x:=by
  let z:=dh Eg;rw[show ((s.toNat:Nat):Int)=s by lia]at z;exact z
 exists _,#v[bN (aV eV (fR D.T.fE (pv 3)) az (bz _)) #v[aK (fP gK rfl D.T.jv tR #[aR bK (pv 0) (pv 1)])] bu,aY 4 (bM ah),aY 5 (bM ah),aY 6 az,eO PassesOwn.never rfl (cC (aR bK (pv 0) (pv 1))) (bW 7) #v[aY 8 (aF D.Ql R hr #[0,7]),aY 9 (bG dY (pv 6) (fR D.T.fE (pv 8))),bN (aV gJ (pv 9) (pv 2) (bz _)) #v[aT (dZ oS jE jF bX (pv 4) #[7])] #v[bN (aV gJ (pv 2) (pv 6) (bz _)) #v[aT (dZ oS jE jF bX (pv 5) #[7])] #v[aT (dZ oS PySem.F.slot_list_extend PySem.F.type_list_extend jC (pv 4) #[jb l6 (pv 8) nH (jj (bG dH (pv 2) (pv 6)))]),aT (dZ oS PySem.F.slot_list_extend PySem.F.type_list_extend jC (pv 5) #[jb l6 (pv 8) (jj (bG dH (pv 2) (pv 6))) nH])]],aY 6 (pv 9)],aK (bG iZ (bG iZ (pv 4) (pv 3)) (pv 5))]
 rfl'
 refine⟨Y,L,Y,.inl (bJ.of hn),1,Y,dO (λR=>?_) (λR=>?_)⟩
 ·let n:w=[]:=by
   let z:V.int (↑(w.map V.int):Int)=V.int 0:=of_decide_eq_true R;let c:=V.int.inj z;rw[b8]at c;exact List.eq_nil_of_length_eq_zero ∅
  refine⟨Y,Y,v,Q,V,bJ.of yf,vK,x,Y,.inl (bJ.of O),λo y=>ae b o _ j ?_ ?_ (ao y _) y⟩
  ·rw[af];unfold gy;rw[if_pos n]
  ·unfold gy;rw[if_pos n];lia
 let n:¬ w=[]:=λz=>R (by rw[z];rfl);refine⟨iz,λA S=>⟨iz,λB R=>?_⟩⟩;have sA:aJ H (aO H A (.lst [])):=ao S _;have sB:aJ _ (aO (aO H A (.lst [])) B (.lst [])):=ao R _;have T:=sA.trans sB;have C:A≠B:=aB af R;have Oo:=aU sA R;refine⟨Y,Y,v,Q,V,bJ.of (T _ _ yf),vK,x,1,⟨_,bJ.of (T _ _ O)⟩,dG (K:=bV) (e:=x) (b:=b.map V.int) (λi F d=>∃ U W X:Option V,F=[⇑↥v,⇑(.int s),⇑(.int p),⇑↥L,⇑↥A,⇑↥B,⇑(.int (0+(↑(aW a (b.take i)):Int))),U,W,X]/\d A=⇑(.lst ((aE a p 0 (b.take i)).map V.int))/\d B=⇑(.lst ((bE a p 0 (b.take i)).map V.int))/\aJ H d) ⟨none,none,none,1,sB _ _ af,af,T⟩ (by rintro i F d _ ⟨_,_,_,_,_,_,c⟩;exact bJ.of (c _ _ O)) ?_ ?_⟩
 ·rintro i ai F d hi ⟨U,W,X,rfl,q,G,c⟩;rw[kB]at hi;let⟨e,ex,rfl⟩:=Option.map_eq_some_iff.mp hi;let x:=take_snoc ex
  let f:aE a p 0 (b.take (i+1))=aE a p 0 (b.take i)++(if 0+(↑(aW a (b.take i)):Int)+↑(bq a e)<=p then [e] else if p<=0+(↑(aW a (b.take i)):Int) then [] else (bq a e).take (p-(0+(↑(aW a (b.take i)):Int))).toNat):=by
   rw[x,wX,aE,aE,ir]
  let g:bE a p 0 (b.take (i+1))=bE a p 0 (b.take i)++(if 0+(↑(aW a (b.take i)):Int)+↑(bq a e)<=p then [] else if p<=0+(↑(aW a (b.take i)):Int) then [e] else (bq a e).drop (p-(0+(↑(aW a (b.take i)):Int))).toNat):=by
   rw[x,wY,bE,bE,ir]
  let eF:(0+(↑(aW a (b.take (i+1))):Int))=0+(↑(aW a (b.take i)):Int)+↑(bq a e):=by
   rw[x,jQ,cF,cY,cY];simp[aW]
  let lA:=EF a p (b.take (i+1)) 0;let lB:=EG a p (b.take (i+1)) 0;let x:=EF a p (b.take i) 0;let x:=EG a p (b.take i) 0;let x:=pH a b (i+1);let x:=pH a b i;let x:↑(b.take (i+1))<=↑b:=by rw[gI];lia
  let x:↑(b.take i)<=↑b:=by rw[gI];lia
  refine⟨Y,Y,av,v,M,e,a,rk,1,ab.same c,eT,pV,xO,Fi,yx,λv=>?_,λo I h3 r y=>?_⟩
  ·let k:jX M s (-1-e):=⟨N,b,j,cR.mpr ⟨by lia,by rw[show -1-(-1-e)=e by lia];exact mC ex⟩⟩;have:=yx _ _ k;exact⟨(pV.Fg k).2,by lia⟩
  let k:=r _ _ q;let J:=r _ _ G;exists Y,Y,o,Y,.inl (bJ.of h3),Z;rw[b8];refine⟨Y,Y,Z,Y,dO (λl=>?_) (λl=>?_)⟩
  ·let WR:0+(↑(aW a (b.take i)):Int)+(↑(bq a e):Int)<=p:=of_decide_eq_true l;rw[if_pos WR]at f g;refine⟨Y,.inl ⟨1,_,bJ.of k⟩,Y,A,Z,k,aQ (by rw[b8];lia),?_⟩;refine⟨Y,⇑(.int e),⇑↥o,⇑(.int (0+(↑(aW a (b.take i)):Int)+(↑(bq a e):Int))),?_,?_,?_,bQ S (c.trans r) (aI A _ _)⟩
   ·rw[eF];rfl
   ·rw[af,f,gm];rfl
   ·rw[aN C.symm,g,ir];exact J
  ·let WR:¬ 0+(↑(aW a (b.take i)):Int)+(↑(bq a e):Int)<=p:=λz=>l (decide_eq_true z);rw[if_neg WR]at f g;refine⟨Y,Y,Z,Y,dO (λt=>?_) (λt=>?_)⟩
   ·let NG:p<=0+(↑(aW a (b.take i)):Int):=of_decide_eq_true t;rw[if_pos NG]at f g;refine⟨Y,.inl ⟨1,_,bJ.of J⟩,Y,B,Z,J,aQ (by rw[b8];lia),?_⟩;refine⟨Y,⇑(.int e),⇑↥o,⇑(.int (0+(↑(aW a (b.take i)):Int)+(↑(bq a e):Int))),?_,?_,?_,bQ Oo (c.trans r) (aI B _ _)⟩
    ·rw[eF];rfl
    ·rw[aN C,f,ir];exact k
    ·rw[af,g,gm];rfl
   ·let NG:¬ p<=0+(↑(aW a (b.take i)):Int):=λz=>t (decide_eq_true z);rw[if_neg NG]at f g;rw[f,cY]at lA;rw[g,cY]at lB;refine⟨Y,.inl ⟨1,_,bJ.of k⟩,Y,Y,Y,Z,Y,o,Y,bJ.of h3,λv x=>?_⟩;have m:aJ I (aO I v (.lst (kL ((bq a e).map V.int) none (⇑(p-(0+(↑(aW a (b.take i)):Int))))))):=ao x _;have e1:kL ((bq a e).map V.int) none (⇑(p-(0+(↑(aW a (b.take i)):Int))))=((bq a e).take (p-(0+(↑(aW a (b.take i)):Int))).toNat).map V.int:=by rw[uC _ ∅,List.map_take]
    refine⟨A,v,Z,m _ _ k,af,gV (aQ (by rw[e1,b8,b8];lia)),?_⟩;let k4:cD A I (aO (aO I v (.lst (kL ((bq a e).map V.int) none (⇑(p-(0+(↑(aW a (b.take i)):Int))))))) A (.lst ((aE a p 0 (b.take i)).map V.int++kL ((bq a e).map V.int) none (⇑(p-(0+(↑(aW a (b.take i)):Int))))))):=cD.trans (aJ.keep m) (aI A _ _);let z:o≠A:=(aB q y).symm;let y:v≠A:=(aB k x).symm;let k:=k4 _ _ J C.symm;refine⟨Y,.inl ⟨1,_,bJ.of k⟩,Y,Y,Y,Z,Y,o,Y,bJ.of (k4 _ _ h3 z),λv fZ=>?_⟩;let e2:kL ((bq a e).map V.int) (⇑(p-(0+(↑(aW a (b.take i)):Int)))) none=((bq a e).drop (p-(0+(↑(aW a (b.take i)):Int))).toNat).map V.int:=by rw[xh _ ∅,List.map_drop]
    refine⟨B,v,Z,ao fZ _ _ _ k,af,gV (aQ (by rw[e2,b8,b8];lia)),?_⟩;exists Y,⇑(.int e),⇑↥o,⇑(.int (0+(↑(aW a (b.take i)):Int)+(↑(bq a e):Int))),?_,?_,?_
    ·rw[eF];rfl
    ·rw[aN C,ao fZ _ _ _ af,f,gm,e1]
    ·rw[af,g,gm,e2]
    ·exact bQ Oo ((bQ S (c.trans r) k4).trans (ao fZ _)) (aI B _ _)
 ·rintro F d ⟨U,W,X,rfl,q,G,c⟩;rw[b8,gQ]at q G;let lA:=EF a p b 0;let lB:=EG a p b 0;refine⟨Y,Y,A,L,Z,q,c _ _ hn,gV (aQ (by rw[b8,b8];lia)),λl e=>?_⟩;let m:aJ d (aO d l (.lst ((aE a p 0 b).map V.int++w.map V.int))):=ao e _;refine⟨Y,l,B,Z,af,m _ _ G,gV (aQ (by rw[cY,b8,b8,b8];lia)),λt a=>?_⟩;refine ae b t _ j ?_ ?_ (c.trans (m.trans (ao a _))) (aU (c.trans m) a)
  ·rw[af];unfold gy;rw[if_neg n,gm,gm]
  ·unfold gy;rw[if_neg n,cY,cY];lia
def Sy(c:Y2)(a b f e:Int):Wp:=if a=b then [e] else LZ c a b f e
def Sz(c:Y2)(a b f e:Int):Wp:=if a=b then [] else Ot c a b f e
def Hi(a:Y2)(b c:Int)(d:Wp)(e:Int):bZ a b c (d++[e])=bZ a b c d++Sy a b c (0+(↑(aW a d):Int)) e:=by
 unfold bZ Sy;split
 ·rfl
 ·rw[wZ,kE,kE,ir]
def Hj(a:Y2)(b c:Int)(d:Wp)(e:Int):iP a b c (d++[e])=iP a b c d++Sz a b c (0+(↑(aW a d):Int)) e:=by
 unfold iP Sz;split
 ·rfl
 ·rw[w9,tE,tE,ir]
def Vp(a:Y2)(b c f e:Int):↑(Sy a b c f e)<=1+2*↑(bq a e):=by
 unfold Sy LZ;split
 ·simp
 ·split
  ·simp
  ·split
   ·simp
   ·rw[cY,gI,qy];lia
def Vq(a:Y2)(b c f e:Int):↑(Sz a b c f e)<=1+2*↑(bq a e):=by
 unfold Sz Ot;split
 ·simp
 ·split
  ·simp
  ·split
   ·simp
   ·rw[qy,gI];lia
theorem Ry(a:Y2)(b c:Int):∀ (d:Wp) (f:Int),↑(kE a b c f d)<=↑d+2*↑(aW a d)
 | [],_=>by simp[kE]
 | e::r,f=>by
  rw[kE,cF,cY,cY,kH];let x:=Ry a b c r (f+↑(bq a e))
  let y:↑(LZ a b c f e)<=1+2*↑(bq a e):=by
   unfold LZ;split
   ·simp
   ·split
    ·simp
    ·rw[cY,gI,qy];lia
  lia
theorem Rz(a:Y2)(b c:Int):∀ (d:Wp) (f:Int),↑(tE a b c f d)<=↑d+2*↑(aW a d)
 | [],_=>by simp[tE]
 | e::r,f=>by
  rw[tE,cF,cY,cY,kH];let x:=Rz a b c r (f+↑(bq a e))
  let y:↑(Ot a b c f e)<=1+2*↑(bq a e):=by
   unfold Ot;split
   ·simp
   ·split
    ·simp
    ·rw[qy,gI];lia
  lia
def uG(b:Y2)(c d:Int)(a:Wp):↑(bZ b c d a)<=↑a+2*↑(aW b a):=by
 unfold bZ;split
 ·lia
 ·exact Ry b c d a 0
def A1(b:Y2)(c d:Int)(a:Wp):↑(iP b c d a)<=↑a+2*↑(aW b a):=by
 unfold iP;split
 ·simp
 ·exact Rz b c d a 0
class inductive RA(d:Nat)
 | mk (i:Y1) (r:Addr) (c:dD) (s a b:Int) (g:Y2) (h:Int->Nat) (_:vs=[↥r,.int s,.int a,.int b]) (_:iM i H r c) (_:↑c<=1000) (_:(∀ e∈c,↑e<=1000)) (_:gZ c) (_:nh c g) (_:(∀ x:Int,0<=x->x<↑c->↑(g x)<=10000)) (_:(∀ x y,jX c x y->h y<h x)) (_:0<=s) (_:s<↑c) (_:h s<=d) (_:a<=b) (_ :
 ∀ (e:Wp) (t L M:Addr) (f:Hp),c[s.toNat]?=⇑e->f t=⇑(.tup [↥L,↥M])->f L=⇑(.lst ((bZ g a b e).map V.int))->f M=⇑(.lst ((iP g a b e).map V.int))->aJ H f->H L=none->H M=none->L≠M->Q ↥t f)
def J4(D:bS){J:Nat}:aZ cX bf bV cW cV cQ (J+3) (dQ 103) (dR 103) ["d","e","x","T"] (RA J):=by
 let pI:aZ cX bf bV cW cV cQ (J+2) _ _ ["d","w"] (xy J):=tO D;specialize eZ ["d","e","x","T","_law_kept","_law_taken","_law_first","w","_law_pieces_here","_law_last","_law_low","_law_high"] D.Qm.F;let⟨av,r,ab,s,p,q,a,rk,rfl,an,eT,ax,pV,xO,Fi,yx,h0,h1,hd,aA,ay⟩:=h;obtain⟨c,m⟩:∃ c,ab[s.toNat]?=⇑c:=⟨_,nT ∅⟩;let aA:=ax c (mC m);let ax:=xO s c h0 m;let aA:=Fi s h0 h1;rw[ax]at aA;let⟨yz,ae,yf,Eg,ap,ax⟩:=an.get m
 let vK:oU yz s=⇑↥ae:=by
  let z:=dh Eg;rw[show ((s.toNat:Nat):Int)=s by lia]at z;exact z
 exists _,#v[aY 4 (bM ah),aY 5 (bM ah),aY 6 az,eO PassesOwn.never rfl (cC (aR bK (pv 0) (pv 1))) (bW 7) #v[aY 8 (aF D.Ql pI hr #[0,7]),aY 9 (bG dY (pv 6) (fR D.T.fE (pv 8))),aY 10 (cA (mD rfl) rfl D.T.As PyProof.Rows.boot_max #[az,bG dH (pv 2) (pv 6)]),aY 11 (bG dH (cA (oA rfl) rfl D.T.Gq PyProof.Rows.boot_min #[9,3]) (pv 6)),bN (PW.pt (FA (aV eV (pv 2) (pv 3) (bz _)) (FA (aV gJ (pv 9) (pv 2) (bz _)) (DB (aV gJ (pv 3) (pv 6) (bz _)))))) #v[aT (dZ oS jE jF bX (pv 4) #[7])] #v[bN (PW.pt (oW (aV gJ (pv 2) (pv 6) (bz _)) (lZ (aV gJ (pv 9) (pv 3) (bz _))))) #v[aT (dZ oS jE jF bX (pv 5) #[7])] #v[aT (dZ oS PySem.F.slot_list_extend PySem.F.type_list_extend jC (pv 4) #[bG iZ (jb l6 (pv 8) nH (jj (pv 10))) (jb l6 (pv 8) (jj (pv 11)) nH)]),aT (dZ oS PySem.F.slot_list_extend PySem.F.type_list_extend jC (pv 5) #[jb l6 (pv 8) (jj (pv 10)) (jj (pv 11))])]],aY 6 (pv 9)],aK (c9 #[4,5])]
 rfl'
 refine⟨iz,λA L=>⟨iz,λB hB=>?_⟩⟩;let sA:aJ H (aO H A (.lst [])):=ao L _;let sB:aJ _ (aO (aO H A (.lst [])) B (.lst [])):=ao hB _;let s1:=sA.trans sB;let n:A≠B:=aB af hB;let Oo:=aU sA hB
 let z0:bZ a p q []=[]/\iP a p q []=[]:=by
  unfold bZ iP
  constructor <;> split <;> rfl
 refine⟨Y,Y,r,Q,V,bJ.of (s1 _ _ yf),vK,ae,1,⟨_,bJ.of (s1 _ _ ap)⟩,dG (K:=bV) (e:=ae) (b:=c.map V.int) (λi M k=>∃ t u v w x:Option V,M=[⇑↥r,⇑(.int s),⇑(.int p),⇑(.int q),⇑↥A,⇑↥B,⇑(.int (0+(↑(aW a (c.take i)):Int))),t,u,v,w,x]/\k A=⇑(.lst ((bZ a p q (c.take i)).map V.int))/\k B=⇑(.lst ((iP a p q (c.take i)).map V.int))/\aJ H k) ⟨none,none,none,none,none,1,(by rw[List.take_zero,z0.1];exact sB _ _ af),(by rw[List.take_zero,z0.2];exact af),s1⟩ (by rintro i M k _ ⟨_,_,_,_,_,_,_,_,j⟩;exact bJ.of (j _ _ ap)) ?_ ?_⟩
 ·rintro i a0 M k hi ⟨t,u,v,w,x,rfl,y,N,j⟩;rw[kB]at hi;let⟨e,ex,rfl⟩:=Option.map_eq_some_iff.mp hi;let st:=take_snoc ex;let O:=Hi a p q (c.take i) e;let R:=Hj a p q (c.take i) e;rw[← st]at O R
  let eF:(0+(↑(aW a (c.take (i+1))):Int))=0+(↑(aW a (c.take i)):Int)+↑(bq a e):=by
   rw[st,jQ,cF,cY,cY];simp[aW]
  let ae:=uG a p q (c.take i);let ae:=A1 a p q (c.take i);let l1:=pH a c (i+1);let l0:=pH a c i
  let le:↑(bq a e)<=↑(aW a (c.take (i+1))):=by
   rw[st,jQ,cF,cY,cY];lia
  let aH:=Vp a p q (0+(↑(aW a (c.take i)):Int)) e;let aS:=Vq a p q (0+(↑(aW a (c.take i)):Int)) e;let t0:↑(c.take i)<=↑c:=by rw[gI];lia
  generalize hf:0+(↑(aW a (c.take i)):Int)=b at *;refine⟨Y,Y,av,r,ab,e,a,rk,1,an.same j,eT,pV,xO,Fi,yx,λae=>?_,λo f S C ho=>?_⟩
  ·let d:jX ab s (-1-e):=⟨h0,c,m,cR.mpr ⟨by lia,by rw[show -1-(-1-e)=e by lia];exact mC ex⟩⟩;have:=yx _ _ d;exact⟨(pV.Fg d).2,by lia⟩
  let g:=C _ _ y;let T:=C _ _ N;exists Y,Y,o,Y,.inl (bJ.of S),Z;rw[b8];exists Y,Y,Z,E,1;exists Y,Y,E,1,Y,Z
  let ag:(if p-b > 0 then p-b else 0).toNat=(p-b).toNat/\0<=(if p-b > 0 then p-b else 0):=by
   split <;> lia
  let AB:(p=q\/(b+(↑(bq a e):Int))<=p\/q<=b)->(aO f A (.lst ((bZ a p q (c.take i)).map V.int++[.int e]))) A=⇑(.lst ((bZ a p q (c.take (i+1))).map V.int))/\(aO f A (.lst ((bZ a p q (c.take i)).map V.int++[.int e]))) B=⇑(.lst ((iP a p q (c.take (i+1))).map V.int)):=λd=>by
   let l:Sy a p q b e=[e]:=by
    unfold Sy LZ;rcases d with d|d
    ·rw[if_pos d]
    ·rw[if_pos d];split <;> rfl
   let F:Sz a p q b e=[]:=by
    unfold Sz Ot;rcases d with d|d
    ·rw[if_pos d]
    ·rw[if_pos d];split <;> rfl
   rw[af,aN n.symm,O,R,l,F,ir,gm];exact⟨1,T⟩
  let ai:∀ ab:Option V,[⇑(V.ref r),⇑(.int s),⇑(.int p),⇑(.int q),⇑↥A,⇑↥B,⇑(.int (b+(↑(bq a e):Int))),⇑(.int e),⇑↥o,⇑(.int (b+(↑(bq a e):Int))),⇑(.int (if p-b > 0 then p-b else 0)),ab]=[⇑↥r,⇑(.int s),⇑(.int p),⇑(.int q),⇑↥A,⇑↥B,⇑(.int (0+(↑(aW a (c.take (i+1))):Int))),⇑(.int e),⇑↥o,⇑(.int (b+(↑(bq a e):Int))),⇑(.int (if p-b > 0 then p-b else 0)),ab]:=λab=>by rw[eF]
  let ak:∀ d:(p=q\/(b+(↑(bq a e):Int))<=p\/q<=b),∃ t u v w x:Option V,[⇑(V.ref r),⇑(.int s),⇑(.int p),⇑(.int q),⇑↥A,⇑↥B,⇑(.int (b+(↑(bq a e):Int))),⇑(.int e),⇑↥o,⇑(.int (b+(↑(bq a e):Int))),⇑(.int (if p-b > 0 then p-b else 0)),⇑(.int ((if q<(b+(↑(bq a e):Int)) then q else (b+(↑(bq a e):Int)))-b))]=[⇑↥r,⇑(.int s),⇑(.int p),⇑(.int q),⇑↥A,⇑↥B,⇑(.int (0+(↑(aW a (c.take (i+1))):Int))),t,u,v,w,x]/\(aO f A (.lst ((bZ a p q (c.take i)).map V.int++[.int e]))) A=⇑(.lst ((bZ a p q (c.take (i+1))).map V.int))/\(aO f A (.lst ((bZ a p q (c.take i)).map V.int++[.int e]))) B=⇑(.lst ((iP a p q (c.take (i+1))).map V.int))/\aJ H (aO f A (.lst ((bZ a p q (c.take i)).map V.int++[.int e]))):=λd =>
   ⟨Q,E,ai _,(AB d).1,(AB d).2,bQ L (j.trans C) (aI A _ _)⟩
  let mA:↑((bZ a p q (c.take i)).map V.int)<sizeLine:=aQ (by rw[b8];lia);refine⟨Y,Y,1,Y,dO (λd=>iK ?_) (λd=>?_)⟩
  ·exact⟨Y,.inl ⟨1,_,bJ.of g⟩,Y,A,Z,g,mA,Y,ak (.inl (V.int.inj (of_decide_eq_true d)))⟩
  let U:¬ p=q:=λz=>d (by rw[z];exact decide_eq_true rfl);refine⟨Y,Y,Z,Y,dO (λd=>iK ?_) (λd=>?_)⟩
  ·exact⟨Y,.inl ⟨1,_,bJ.of g⟩,Y,A,Z,g,mA,Y,ak (.inr (.inl (of_decide_eq_true d)))⟩
  let r:¬ (b+(↑(bq a e):Int))<=p:=λz=>d (decide_eq_true z);refine⟨Y,Y,Z,Y,dO (λd=>?_) (λd=>?_)⟩
  ·exact⟨Y,.inl ⟨1,_,bJ.of g⟩,Y,A,Z,g,mA,Y,ak (.inr (.inr (of_decide_eq_true d)))⟩
  let ab:¬ q<=b:=λz=>d (decide_eq_true z);have W:¬ ((b+(↑(bq a e):Int))<=p\/q<=b):=λz=>z.elim r ab
  let hh:((if q<(b+(↑(bq a e):Int)) then q else (b+(↑(bq a e):Int)))-b).toNat=min ↑(bq a e) (q-b).toNat/\0<=(if q<(b+(↑(bq a e):Int)) then q else (b+(↑(bq a e):Int)))-b:=by
   split <;> lia
  let d:p<q:=by lia
  let uO:¬ (p<=b/\(b+(↑(bq a e):Int))<=q)->Sy a p q b e=(bq a e).take (if p-b > 0 then p-b else 0).toNat++(bq a e).drop ((if q<(b+(↑(bq a e):Int)) then q else (b+(↑(bq a e):Int)))-b).toNat/\Sz a p q b e=((bq a e).take ((if q<(b+(↑(bq a e):Int)) then q else (b+(↑(bq a e):Int)))-b).toNat).drop (if p-b > 0 then p-b else 0).toNat:=λd=>by
   unfold Sy Sz LZ Ot;rw[if_neg U,if_neg U,if_neg W,if_neg W,if_neg d,if_neg d,ag.1,hh.1];rcases Nat.le_total (q-b).toNat ↑(bq a e) with z|z
   ·rw[Nat.min_eq_right z];exact⟨V⟩
   ·rw[Nat.min_eq_left z,yp z,yp (fF _),qv z,qv (fF _)];exact⟨V⟩
  refine⟨Y,Y,Z,Y,Jx (λz=>⟨Y,Y,Z,Y,z⟩) (λX=>?_) (λX=>?_)⟩
  ·let l:Sy a p q b e=[]:=by unfold Sy LZ;rw[if_neg U,if_neg W,if_pos X]
   let F:Sz a p q b e=[e]:=by unfold Sz Ot;rw[if_neg U,if_neg W,if_pos X]
   refine⟨Y,.inl ⟨1,_,bJ.of T⟩,Y,B,Z,T,aQ (by rw[b8];lia),Y,Q,E,ai _,?_,?_,bQ Oo (j.trans C) (aI B _ _)⟩
   ·rw[aN n,O,l,ir];exact g
   ·rw[af,R,F,gm];rfl
  ·let⟨r1,r2⟩:=uO X;rw[r1,cY]at aH;rw[r2]at aS;refine⟨Y,.inl ⟨1,_,bJ.of g⟩,Y,Y,Y,o,Y,bJ.of S,λl r=>?_⟩;rw[uC _ ag.2,← List.map_take];let d:aJ f (aO f l (.lst (((bq a e).take (if p-b > 0 then p-b else 0).toNat).map V.int))):=ao r _;refine⟨Y,Y,Y,o,Y,bJ.of (d _ _ S),λF z=>?_⟩;rw[xh _ hh.2,← List.map_drop];let r:aJ _ (aO (aO f l (.lst (((bq a e).take (if p-b > 0 then p-b else 0).toNat).map V.int))) F (.lst (((bq a e).drop ((if q<(b+(↑(bq a e):Int)) then q else (b+(↑(bq a e):Int)))-b).toNat).map V.int))):=ao z _;refine⟨l,F,Z,r _ _ af,af,(by rw[b8,b8];exact gV (aQ ∅)),λG z=>?_⟩;let U:aJ _ (aO (aO (aO f l (.lst (((bq a e).take (if p-b > 0 then p-b else 0).toNat).map V.int))) F (.lst (((bq a e).drop ((if q<(b+(↑(bq a e):Int)) then q else (b+(↑(bq a e):Int)))-b).toNat).map V.int))) G (.lst (((bq a e).take (if p-b > 0 then p-b else 0).toNat).map V.int++((bq a e).drop ((if q<(b+(↑(bq a e):Int)) then q else (b+(↑(bq a e):Int)))-b).toNat).map V.int))):=ao z _;let I:=d.trans (r.trans U);let aq:(aO (aO (aO f l (.lst (((bq a e).take (if p-b > 0 then p-b else 0).toNat).map V.int))) F (.lst (((bq a e).drop ((if q<(b+(↑(bq a e):Int)) then q else (b+(↑(bq a e):Int)))-b).toNat).map V.int))) G (.lst (((bq a e).take (if p-b > 0 then p-b else 0).toNat).map V.int++((bq a e).drop ((if q<(b+(↑(bq a e):Int)) then q else (b+(↑(bq a e):Int)))-b).toNat).map V.int))) G=⇑(.lst (((bq a e).take (if p-b > 0 then p-b else 0).toNat).map V.int++((bq a e).drop ((if q<(b+(↑(bq a e):Int)) then q else (b+(↑(bq a e):Int)))-b).toNat).map V.int)):=af;generalize aO (aO (aO f l (.lst (((bq a e).take (if p-b > 0 then p-b else 0).toNat).map V.int))) F (.lst (((bq a e).drop ((if q<(b+(↑(bq a e):Int)) then q else (b+(↑(bq a e):Int)))-b).toNat).map V.int))) G (.lst (((bq a e).take (if p-b > 0 then p-b else 0).toNat).map V.int++((bq a e).drop ((if q<(b+(↑(bq a e):Int)) then q else (b+(↑(bq a e):Int)))-b).toNat).map V.int))=H6 at I aq;refine⟨A,G,Z,I _ _ g,aq,(by rw[cY,b8,b8,b8];exact gV (aQ ∅)),?_⟩;let k7:cD A H6 (aO H6 A (.lst ((bZ a p q (c.take i)).map V.int++(((bq a e).take (if p-b > 0 then p-b else 0).toNat).map V.int++((bq a e).drop ((if q<(b+(↑(bq a e):Int)) then q else (b+(↑(bq a e):Int)))-b).toNat).map V.int)))):=aI A _ _;let ar:(aO H6 A (.lst ((bZ a p q (c.take i)).map V.int++(((bq a e).take (if p-b > 0 then p-b else 0).toNat).map V.int++((bq a e).drop ((if q<(b+(↑(bq a e):Int)) then q else (b+(↑(bq a e):Int)))-b).toNat).map V.int)))) A=⇑(.lst ((bZ a p q (c.take (i+1))).map V.int)):=by rw[af,O,r1,gm,gm]
   let d:o≠A:=(aB y ho).symm;let as:=k7 _ _ (I _ _ S) d;let am:=k7 _ _ (I _ _ T) n.symm;let aw:=bQ L (j.trans (C.trans I)) k7;generalize aO H6 A (.lst ((bZ a p q (c.take i)).map V.int++(((bq a e).take (if p-b > 0 then p-b else 0).toNat).map V.int++((bq a e).drop ((if q<(b+(↑(bq a e):Int)) then q else (b+(↑(bq a e):Int)))-b).toNat).map V.int)))=a at k7 ar as am aw;refine⟨Y,.inl ⟨1,_,bJ.of am⟩,Y,Y,Y,Y,Y,o,Y,bJ.of as,λb a=>?_⟩;rw[GZ _ ag.2 hh.2,← List.map_take,← List.map_drop];refine⟨B,b,Z,ao a _ _ _ am,af,(by rw[b8,b8];exact gV (aQ ∅)),?_⟩;refine⟨Y,Q,E,ai _,?_,?_,bQ Oo (aw.trans (ao a _)) (aI B _ _)⟩
   ·rw[aN n];exact ao a _ _ _ ar
   ·rw[af,R,r2,gm]
 ·rintro M k ⟨t,u,v,w,x,rfl,y,N,j⟩;rw[b8,gQ]at y N;refine⟨Y,Y,mj,λt a=>ay c t A B _ m af (ao a _ _ _ y) (ao a _ _ _ N) (j.trans (ao a _)) L Oo n⟩
class inductive rW(d:Nat)
 | mk (c:Y1) (r:Addr) (a:dD) (x:Int) (f:Int->Int) (b:Int->Nat) (_:vs=[↥r,.int x]) (_:iM c H r a) (_:↑a<=1000) (_:gZ a) (_:0<=x) (_:x<↑a) (_:Weighs a f) (_:(∀ x y,jX a x y->b y<b x)) (_:b x<d) (_:Q (.int (f x)) H)
def xA(D:bS){n:Nat}(v:aZ cX bf bV cW cV cQ (n+1) (dQ 104) (dR 104) ["d","e"] (rW n)):aZ cX bf bV cW cV cQ (n+2) (dQ 104) (dR 104) ["d","e"] (rW (n+1)):=by
 specialize eZ ["d","e","_law_total","w"] D.Qn.F;let⟨w,r,d,x,f,y,rfl,R,B,l,m,t,o,p,G,C⟩:=h;obtain⟨a,g⟩:∃ a,d[x.toNat]?=⇑a:=⟨_,nT ∅⟩;let⟨t,j,F,G,k,J⟩:=R.get g
 let I:oU t x=⇑↥j:=by
  let z:=dh G;rw[show ((x.toNat:Nat):Int)=x by lia]at z;exact z
 exists _,#v[aY 2 az,eO PassesOwn.never rfl (cC (aR bK (pv 0) (pv 1))) (bW 3) #v[aY 2 (bG dY (pv 2) az),bN (aV kJ (pv 3) az (bz _)) #v[aY 2 (bG dY (pv 2) (aF D.Qn v hr #[0,bG dH (iE gf az) (pv 3)]))] bu],aK (pv 2)]
 rfl'
 refine⟨Y,Y,r,Q,V,bJ.of F,I,j,1,⟨_,bJ.of k⟩,dG (K:=bV) (e:=j) (b:=a.map V.int) (λi b c=>∃ u:Option V,b=[⇑↥r,⇑(.int x),⇑(.int (kX f (a.take i))),u]/\c=H) ⟨none,V⟩ (λi b c _ ⟨E,e⟩=>by rw[e];exact bJ.of k) ?_ ?_⟩
 ·rintro i e b c q ⟨u,rfl,rfl⟩;rw[kB]at q;let⟨e,s,rfl⟩:=Option.map_eq_some_iff.mp q
  let q:kX f (a.take (i+1))=kX f (a.take i)+(if e<0 then 1+f (-1-e) else 1):=by
   rw[take_snoc s];unfold kX;rw[gm,List.sum_append];simp
  exists Y,Z;refine⟨Y,Z,Y,dO (λj=>?_) (λj=>?_)⟩
  ·let k:e<0:=of_decide_eq_true j;let t:jX d x (-1-e):=⟨m,a,g,cR.mpr ⟨by lia,by rw[show -1-(-1-e)=e by lia];exact mC s⟩⟩;let⟨s,z⟩:=l.Fg t;let F:=p _ _ t;exists Y,Y,Y,Y,Z,w,r,d,-1-e,f,y,1,R,B,l,s,z,o,p,by lia,Z;refine⟨⇑(.int e),?_,1⟩;rw[q,if_pos k];show [⇑(V.ref r),⇑(V.int x),⇑(V.int (kX f (a.take i)+1+f (-1-e))),⇑(V.int e)]=_;rw[show kX f (a.take i)+1+f (-1-e)=kX f (a.take i)+(1+f (-1-e)) by lia]
  ·let k:¬ e<0:=λz=>j (decide_eq_true z);refine⟨⇑(.int e),?_,1⟩;rw[q,if_neg k];rfl
 ·rintro b c ⟨u,rfl,rfl⟩;rw[b8,gQ,← o x a m g];exact⟨Y,C⟩
theorem rf(D:bS):∀ n:Nat,aZ cX bf bV cW cV cQ (n+1) (dQ 104) (dR 104) ["d","e"] (rW n)
 | 0=>by
  let b:∀ a H Q E,¬ rW 0 a H Q E:=λa H Q E h=>by
   let⟨_,_,_,_,_,_,_,_,_,_,_,_,_,_,h,_⟩:=h;exact Nat.not_lt_zero _ h
  exact⟨λa H Q E h=>absurd h (b a H Q E),λA c s H args d a Q E _ _ _ _ h=>absurd h (b a H Q E)⟩
 | n+1=>xA D (rf D n)
theorem tP:‹(1,105,["k"],Tt)›:=λD=>by
 refine eZ ["k","9","_law_number"] D.Qo.F λdc A zn s H vs Q E hr _ h=>?_;let⟨v,f,rfl,y,L,F⟩:=h;exists _,#v[aY 1 (bM ah),eO PassesOwn.never rfl (cC (pv 0)) (bW 2) #v[bN (PW.pt (oW (aV za (fR D.T.fE (pv 1)) az (bz _)) (lZ (aV eV (aR bh (aR bK (pv 1) (iE gf az)) az) (pv 2) (bz _))))) #v[mS (c9 #[aR bh (aR bK (pv 1) (iE gf az)) az,bG dY (pv 2) az]) (oY (pv 1) (iE gf az) jH)] #v[aT (dZ oS jE jF bX (pv 1) #[c9 #[2,bG dY (pv 2) az]])]],aK (pv 1)]
 rfl'
 refine⟨iz,λq g=>?_⟩;let s0:aJ H (aO H q (.lst [])):=ao g _;refine⟨Y,v,1,⟨_,bJ.of (s0 _ _ y)⟩,dG (K:=bV) (e:=v) (b:=f.map V.int) (λi p c=>∃ (e:WF) (w:Option V),p=[⇑↥v,⇑↥q,w]/\c q=⇑(.lst (e.map V.ref))/\bx c e ((f.take i).foldl (λt n=>iS t n (n+1)) [])/\aJ H c) ⟨[],none,1,af,.nil,s0⟩ (by rintro i p c _ ⟨_,_,_,_,_,s⟩;exact bJ.of (s _ _ y)) ?_ ?_⟩
 ·rintro i M p c z ⟨e,w,rfl,a,b,s⟩;rw[kB]at z;let⟨m,G,rfl⟩:=Option.map_eq_some_iff.mp z;let step:=foldl_take_succ (λt n=>iS t n (n+1)) f [] i m G
  let I:↑e<sizeLine:=by
   let B:=b.len;let d:=zY (f.take i) [];rw[gI]at d;exact aQ (by simp only[oq]at d;lia)
  exists Y,q,Y,.inl (bJ.of a),Z,Y;rcases lY ((f.take i).foldl (λt n=>iS t n (n+1)) []) with r|⟨f,x,r⟩
  ·rw[r]at b step;let n:e=[]:=List.eq_nil_of_length_eq_zero b.len;subst n;refine fT (fT ?_);refine⟨Y,.inl ⟨1,_,bJ.of a⟩,Y,Y,Z,mj,λt d=>⟨q,Z,ao d _ _ _ a,(by show 0<sizeLine;decide),?_⟩⟩;let⟨j,k,l⟩:=zX (c:=m) (d:=m+1) g s a b d;refine⟨[]++[t],Y,j,?_,l⟩;rw[step,jc];exact k
  ·rw[j3]at r;rw[r]at b step;let⟨n,o,rfl,J,C⟩:=b.split;let u:c q=⇑(.lst (n.map V.ref++[↥o])):=by rw[a,gm];rfl
   refine dO (λ_=>?_) (λd=>absurd (decide_eq_true (by rw[b8,cY,iA];lia)) d);refine⟨Y,Y,q,Q,V,bJ.of u,gX _ _,o,Q,V,dN.of C,Jj,Y,1,Y,dO (λf=>?_) (λf=>?_)⟩
   ·let i:x.2=m:=V.int.inj (of_decide_eq_true f);refine⟨Y,Y,q,Q,V,bJ.of u,gX _ _,o,Q,V,dN.of C,DP,Y,Z,mj,λt d=>?_⟩;exists Y,Y,q,E,↑n,V,ao d _ _ _ u,Jo n o;let⟨j,k,l⟩:=turned (st:=x.1) (en:=m+1) g s u J d;refine⟨n++[t],Y,j,?_,l⟩;rw[step,jd _ i];exact k
   ·let i:¬ x.2=m:=λB=>f (decide_eq_true (congrArg V.int B));refine⟨Y,.inl ⟨1,_,bJ.of a⟩,Y,Y,Z,mj,λt d=>⟨q,Z,ao d _ _ _ a,(by rw[b8];exact I),?_⟩⟩;let⟨j,k,l⟩:=zX (c:=m) (d:=m+1) g s a b d;refine⟨n++[o]++[t],Y,j,?_,l⟩;rw[step,je _ i];exact k
 ·rintro p c ⟨e,w,rfl,a,b,s⟩;refine⟨Y,F q c ⟨e,a,?_⟩ s g⟩;rw[b8,gQ]at b;exact b
def Reach.trans{E:Int->Int->Prop}{a b c:Int}(h:Reach E a b)(g:Reach E b c):Reach E a c:=by
 induction g with
 | one e=>exact .step h e
 | step _ e d=>exact .step d e
theorem Hl{p q:Nat->Bool}(h:∀ i,p i=true->q i=true):∀ n,cnt n p<=cnt n q
 | 0=>fF _
 | n+1=>by
  rw[vA,vA];let a:=Hl h n;by_cases c:p n=true
  ·rw[if_pos c,if_pos (h n c)];lia
  ·rw[if_neg c];lia
open Classical in
def Zl{a:dD}(c:gZ a)(l:↑a<=40)(h:∀ x,¬ Reach (jX a) x x):DU a:=by
 refine⟨λx=>cnt ↑a λi=>decide (Reach (jX a) x (i:Int)),λx=>iG (Aj _ _) l,λx y n=>?_⟩;let⟨b,d⟩:=c.Fg n;let b:((y.toNat:Nat):Int)=y:=by lia
 let d:=Hl (p:=λi=>decide (Reach (jX a) y (i:Int))) (q:=λi=>decide (Reach (jX a) x (i:Int))&&decide (i≠y.toNat)) (λi d=>by
  let r:=of_decide_eq_true d;rw[Bool.and_eq_true];refine⟨decide_eq_true ((Reach.one n).trans r),decide_eq_true λz=>?_⟩;rw[z,b]at r
  exact h _ r) ↑a
 let d:=vB y.toNat ↑a (p:=λi=>decide (Reach (jX a) x (i:Int))) (q:=λi=>decide (Reach (jX a) x (i:Int))&&decide (i≠y.toNat)) ∅ (decide_eq_true (by rw[b];exact .one n)) (λ_=>rfl);show cnt _ _<cnt _ _;lia
def Me{a:dD}{s:Nat}{b:Wp}{x y:Int}(h:jX (a.set s b) x y)(c:x.toNat≠s):jX a x y:=by
 let⟨d,f,e,g⟩:=h;rw[List.getElem?_set_ne (λz=>c z.symm)]at e;exact⟨d,f,e,g⟩
def RB{a:dD}{s:Int}{c:Wp}(j:0<=s)(g:DU a)(n:¬ Reach (jX (a.set s.toNat c)) s s):∀ x,¬ Reach (jX (a.set s.toNat c)) x x:=by
 let h:∀ {b d:Int},Reach (jX (a.set s.toNat c)) b d->Reach (jX a) b d\/((b=s\/Reach (jX (a.set s.toNat c)) b s)/\Reach (jX (a.set s.toNat c)) s d):=by
  intro b d r
  induction r with
  | one e =>
   by_cases f:b.toNat=s.toNat
   ·let q:b=s:=by have:=e.1;lia
    rw[q]at e;exact .inr ⟨.inl q,.one e⟩
   ·exact .inl (.one (Me e f))
  | @step y z r e i =>
   by_cases f:y.toNat=s.toNat
   ·let q:y=s:=by have:=e.1;lia
    rw[q]at r e;exact .inr ⟨.inr r,.one e⟩
   ·rcases i with i|i
    ·exact .inl (.step i (Me e f))
    ·exact .inr ⟨i.1,.step i.2 e⟩
 intro x r;rcases h r with z|⟨z|z,y⟩
 ·exact g.ox z
 ·rw[z]at y;exact n y
 ·exact n (y.trans z)
def N3(f:Int->Int)(e:Int)(r:Wp):kX f (e::r)=(if e<0 then 1+f (-1-e) else 1)+kX f r:=by unfold kX;rw[iu,List.sum_cons]
theorem Mf{b:Y2}{f:Int->Int}:∀ {a:Wp},(∀ y∈fj a,(↑(b y):Int)<=f y)->(↑a:Int)<=kX f a/\(↑(aW b a):Int)<=kX f a
 | [],_=>by simp[kX,aW]
 | e::r,h=>by
  let c:=Mf (a:=r) λy c=>h y (cR.mpr ⟨(cR.mp c).1,j0 _ (cR.mp c).2⟩);rw[N3,cF,cY,kH];unfold bq;by_cases c:e<0
  ·let z:=h (-1-e) (cR.mpr ⟨by lia,by rw[show -1-(-1-e)=e by lia];simp⟩);rw[if_pos c,if_pos c];lia
  ·rw[if_neg c,if_neg c,iA];lia
def Ho{b:dD}{c:Y2}{f:Int->Int}(h:gZ b)(i:DU b)(j:nh b c)(l:Weighs b f):∀ x:Int,0<=x->∀ a,b[x.toNat]?=⇑a->(↑a:Int)<=f x/\(↑(c x):Int)<=f x:=by
 let⟨g,_,m⟩:=i
 let o:∀ (k:Nat) (x:Int),g x<k->0<=x->∀ a,b[x.toNat]?=⇑a->(↑a:Int)<=f x/\(↑(c x):Int)<=f x:=by
  intro k
  induction k with
  | zero=>intro x d;lia
  | succ k k =>
   intro x n d a e;rw[l x a d e,j x a d e];refine Mf λy p=>?_;have n:jX b x y:=⟨d,a,e,p⟩;let⟨d,e⟩:=h.Fg n;have:=m _ _ n;exact (k y ∅ d _ (nT ∅)).2
 exact λx=>o (g x+1) x (Nat.lt_succ_self _)
def RC{a:dD}{c:Y2}{N:Int->Prop}(l:gZ a)(m:DU a)(n:nh a c)(o:∀ p∈a,∀ e∈p,0<=e->N e):∀ x:Int,0<=x->x<↑a->∀ y∈c x,N y:=by
 let⟨f,b,q⟩:=m
 let r:∀ (k:Nat) (x:Int),f x<k->0<=x->x<↑a->∀ y∈c x,N y:=by
  intro k
  induction k with
  | zero=>intro x h;lia
  | succ k k =>
   intro x d g h y b;let d:a[x.toNat]?=⇑a[x.toNat]:=nT ∅;rw[n x _ g d]at b;unfold aW at b;let⟨e,h,b⟩:=List.mem_flatMap.mp b;unfold bq at b;by_cases i:e<0
   ·rw[if_pos i]at b;let j:jX a x (-1-e):=⟨g,_,d,cR.mpr ⟨by lia,by rw[show -1-(-1-e)=e by lia];exact h⟩⟩;let⟨g,s⟩:=l.Fg j;have:=q _ _ j;exact k _ ∅ g s y b
   ·rw[if_neg i]at b;rw[List.mem_singleton.mp b];exact o _ (mC d) e h ∅
 exact λx=>r (f x+1) x (Nat.lt_succ_self _)
def tQ(n m:Nat)(e:Int):Prop:=(0<=e/\e<(n:Nat))\/(e<0/\-1-e<(m:Nat))
structure Good(n:Nat)(rows:dD):Prop where
 en:∀ es∈rows,∀ e∈es,tQ n ↑rows e
 rk:DU rows
 ln:↑rows<=40
 wt:∃ f,Weighs rows f/\∀ x:Int,0<=x->x<↑rows->f x<=200
theorem EH{n:Nat}{a:dD}(h:∀ b∈a,∀ e∈b,tQ n ↑a e):gZ a:=λb c y d=>by
 let⟨g,f⟩:=cR.mp d;rcases h b c _ f with z|z
 ·lia
 ·have:=z.2;lia
structure Gd(n:Nat)(rows:dD)(sh:Y2):Prop where
 sn:Seen rows sh
 Z0:∀ x:Int,0<=x->x<↑rows->∀ a∈sh x,0<=a/\a<(n:Nat)
 sl:∀ x:Int,0<=x->x<↑rows->↑(sh x)<=200
 es:∀ es∈rows,↑es<=200
 en:∀ es∈rows,∀ e∈es,tQ n ↑rows e
 ln:↑rows<=40
def Good.es{n:Nat}{a:dD}(h:Good n a):∀ es∈a,↑es<=200:=by
 let⟨en,rk,ln,f,c,d⟩:=h;let⟨b,e⟩:=AY rk;intro es f;let⟨i,b⟩:=List.mem_iff_getElem?.mp f;let f:=(List.getElem?_eq_some_iff.mp b).1;let f:=Ho (EH en) rk e c (i:Int) ∅ es (by rw[Int.toNat_natCast];exact b);have:=d (i:Int) ∅ ∅;lia
def Good.WS{n:Nat}{c:dD}(i:Good n c):∃ a,Gd n c a:=by
 let j:=i.es;let⟨en,rk,ln,f,l,d⟩:=i;let⟨a,e⟩:=AY rk;let f:=EH en
 let k:∀ x:Int,0<=x->x<↑c->↑(a x)<=200:=λx b g=>by
  let h:=Ho f rk e l x b _ (nT ∅);have:=d x b g;lia
 refine⟨a,⟨λes h=>by have:=j es h;lia,f,rk,e,λx b g=>by have:=k x b g;lia⟩,RC f rk e (λes h m d e0=>?_),k,j,en,ln⟩;rcases en es h m d with z|z
 ·exact z
 ·lia
def Good.bears{n:Nat}{a:dD}(h:Good n a):∃ f,nB a f:=by
 let b:=h.es;let⟨en,rk,ln,f,c,d⟩:=h;exact⟨f,by lia,λes e=>by have:=b es e;lia,EH en,rk,c,d⟩
theorem Good.more{n m:Nat}{a:dD}(h:Good n a)(l:n<=m):Good m a:=⟨λes b e c=>(h.en es b e c).imp (λz=>⟨z.1,by have:=z.2;lia⟩) id,h.rk,h.ln,h.wt⟩
def RD{n:Nat}{a:dD}{s:Nat}{b:Wp}(h:∀ b∈a,∀ e∈b,tQ n ↑a e)(g:∀ e∈b,tQ n ↑a e):∀ c∈a.set s b,∀ e∈c,tQ n ↑(a.set s b) e:=by
 intro c d;rw[List.length_set];rcases List.mem_or_eq_of_mem_set d with z|z
 ·exact h c z
 ·rw[z];exact g
theorem Hq{a:Y2}{N:Int->Prop}(d:∀ e,N e->∀ x∈bq a e,N x)(p:Int):∀ (c:Wp) (f:Int),(∀ e∈c,N e)->∀ x,x∈aE a p f c\/x∈bE a p f c->N x
 | [],_,_=>λx b=>by rcases b with z | z <;> cases z
 | e::r,f,h=>by
  intro x b;rw[aE,bE,List.mem_append,List.mem_append]at b;let g:=d e (h e (by simp));let i:=Hq d p r (f+↑(bq a e)) (λy j=>h y (j0 _ j)) x;rcases b with (z|z)|(z|z)
  ·split at z
   ·rw[List.mem_singleton.mp z];exact h e (by simp)
   ·split at z
    ·cases z
    ·exact g x (List.mem_of_mem_take z)
  ·exact i (.inl z)
  ·split at z
   ·cases z
   ·split at z
    ·rw[List.mem_singleton.mp z];exact h e (by simp)
    ·exact g x (List.mem_of_mem_drop z)
  ·exact i (.inr z)
theorem RE{b:Y2}{N:Int->Prop}(j:∀ e,N e->∀ x∈bq b e,N x)(c d:Int):∀ (g:Wp) (f:Int),(∀ e∈g,N e)->∀ x,x∈kE b c d f g\/x∈tE b c d f g->N x
 | [],_,_=>λx a=>by rcases a with z | z <;> cases z
 | e::r,f,h=>by
  intro x a;rw[kE,tE,List.mem_append,List.mem_append]at a;let i:=j e (h e (by simp));let k:=RE j c d r (f+↑(bq b e)) (λy l=>h y (j0 _ l)) x;unfold LZ Ot at a;rcases a with (z|z)|(z|z)
  ·split at z
   ·rw[List.mem_singleton.mp z];exact h e (by simp)
   ·split at z
    ·cases z
    ·rcases List.mem_append.mp z with z|z
     ·exact i x (List.mem_of_mem_take z)
     ·exact i x (List.mem_of_mem_drop z)
  ·exact k (.inl z)
  ·split at z
   ·cases z
   ·split at z
    ·rw[List.mem_singleton.mp z];exact h e (by simp)
    ·exact i x (List.mem_of_mem_take (List.mem_of_mem_drop z))
  ·exact k (.inr z)
def xB{c:Y2}{N:Int->Prop}(d:∀ e,N e->∀ x∈bq c e,N x){p:Int}{b f:Wp}(h:∀ e∈b,N e)(g:∀ e∈f,N e):∀ e∈gy c p b f,N e:=by
 intro x a;unfold gy at a;split at a
 ·exact h x a
 ·rw[List.mem_append,List.mem_append]at a;rcases a with (z|z)|z
  ·exact Hq d p b 0 h x (.inl z)
  ·exact g x z
  ·exact Hq d p b 0 h x (.inr z)
def Gd.cl{n:Nat}{b:dD}{c:Y2}(h:Gd n b c):∀ e,tQ n ↑b e->∀ x∈bq c e,tQ n ↑b x:=by
 intro e d x a;unfold bq at a;rcases d with z|z
 ·rw[if_neg ∅]at a;rw[List.mem_singleton.mp a];exact .inl z
 ·rw[if_pos z.1]at a;exact .inl (h.Z0 _ ∅ z.2 x a)
def Gd.own{n:Nat}{a:dD}{b:Y2}(h:Gd n a b)(s:Int):∀ e∈_gE.own a s,tQ n ↑a e:=by
 unfold _gE.own
 cases e:a[s.toNat]? with
 | none=>exact λ_ z=>nomatch z
 | some es=>exact h.en es (mC e)
inductive LD
 | put (s p:Int) (r:Addr) (c:Row)
 | cut (s a b:Int)
 | Vr (s a b t:Int)
 | WT (t p s a b:Int)
 | win (t p s:Int)
 | fix (s:Int)
def LD.sh:LD->Int
 | .put s _ _ _=>s
 | .cut s _ _=>s
 | .Vr s _ _ _=>s
 | .WT t _ _ _ _=>t
 | .win t _ _=>t
 | .fix s=>s
def LD.At(H:Hp)(d:Addr):LD->Prop
 | .put s p r row=>H d=⇑(.tup [.str "put",.int s,.int p,↥r])/\bU H r row
 | .cut s a b=>H d=⇑(.tup [.str "cut",.int s,.int a,.int b])
 | .Vr s a b t=>H d=⇑(.tup [.str "move",.int s,.int a,.int b,.int t])
 | .WT t p s a b=>H d=⇑(.tup [.str "quote",.int t,.int p,.int s,.int a,.int b])
 | .win t p s=>H d=⇑(.tup [.str "window",.int t,.int p,.int s])
 | .fix s=>H d=⇑(.tup [.str "fix",.int s])
def LD.Ok(n m:Nat)(sh:Y2):LD->Prop
 | .put s p _ row=>qV m s/\(0<=p/\p<=↑(sh s))/\↑row<=2/\∀ q∈row,0<=q.1/\q.1<q.2/\q.2<=(n:Nat)/\q.2<=q.1+40
 | .cut s a b=>qV m s/\TQ a b ↑(sh s)
 | .Vr s a b t=>qV m s/\Mv a b t ↑(sh s)
 | .WT t p s a b=>qV m t/\(0<=p/\p<=↑(sh t))/\qV m s/\TQ a b ↑(sh s)
 | .win t p s=>qV m t/\(0<=p/\p<=↑(sh t))/\qV m s
 | .fix s=>qV m s
def LD.res(sh:Y2)(c:dD):LD->List Int
 | .put s p _ row=>gy sh p (own c s) (bg row)
 | .cut s a b=>bZ sh a b (own c s)
 | .Vr s a b t=>mq sh a b t (own c s)
 | .WT t p s a b=>gy sh p (own c t) (((sh s).take b.toNat).drop a.toNat)
 | .win t p s=>gy sh p (own c t) [-1-s]
 | .fix s=>sh s
def LD.Z0{n m:Nat}{sh:Y2}{a:LD}(h:a.Ok n m sh):qV m a.sh:=by
 cases a with
 | fix=>exact h
 | _=>exact h.1
def LD.Zm{n:Nat}{f:dD}{sh:Y2}(g:Gd n f sh){i:LD}(h:i.Ok n ↑f sh):∀ e∈i.res sh f,tQ n ↑f e:=by
 let d:=g.cl
 cases i with
 | put s p r row =>
  refine xB d (g.own s) λe c=>.inl (Rw (λq j=>?_) c);have:=h.2.2.2 q j;exact⟨this.1,this.2.1,this.2.2.1⟩
 | cut s a b =>
  intro e c;unfold LD.res bZ at c;dsimp only at c;split at c
  ·exact g.own s e c
  ·exact RE d a b _ 0 (g.own s) e (.inl c)
 | Vr s a b t =>
  intro e c;unfold LD.res mq at c;dsimp only at c;split at c
  ·exact g.own s e c
  ·let j:=RE d a b (own f s) 0 (g.own s);rw[List.mem_append,List.mem_append]at c;rcases c with (z|z)|z
   ·exact Hq d t _ 0 (λy k=>j y (.inl k)) e (.inl z)
   ·exact j e (.inr z)
   ·exact Hq d t _ 0 (λy k=>j y (.inl k)) e (.inr z)
 | WT t p s a b =>
  refine xB d (g.own t) λe c=>.inl (g.Z0 s h.2.2.1.1 h.2.2.1.2 e (List.mem_of_mem_take (List.mem_of_mem_drop c)))
 | win t p s =>
  refine xB d (g.own t) λe c=>.inr ?_;rw[List.mem_singleton.mp c];have:=h.2.2;unfold qV at this;lia
 | fix s=>exact λe c=>.inl (g.Z0 s h.1 h.2 e c)
def LD.At.same{H b:Hp}{d:Addr}{a:LD}(s:aJ H b)(h:a.At H d):a.At b d:=by
 cases a with
 | put=>exact⟨s _ _ h.1,h.2.same s⟩
 | _=>exact s _ _ h
theorem RG(b:Y2){d g:Int}{N:Int->Prop}:∀ (c:Wp) (f:Int),(∀ e∈c,∀ x∈bq b e,N x)->∀ x∈kE b d g f c,x∈c\/N x
 | [],_,_=>λx a=>by cases a
 | e::r,f,h=>by
  intro x a;rw[kE]at a;rcases List.mem_append.mp a with z|z
  ·unfold LZ at z;split at z
   ·rw[List.mem_singleton.mp z];exact .inl (by simp)
   ·split at z
    ·cases z
    ·rcases List.mem_append.mp z with y|y
     ·exact .inr (h e (by simp) x (List.mem_of_mem_take y))
     ·exact .inr (h e (by simp) x (List.mem_of_mem_drop y))
  ·rcases RG b r _ (λe a=>h e (j0 _ a)) x z with y|y
   ·exact .inl (j0 _ y)
   ·exact .inr y
theorem A2(b:Y2):∀ (a:Wp),(∀ x∈a,0<=x)->aW b a=a
 | [],_=>rfl
 | x::a,h=>by rw[cF,rP b (h x (by simp)),A2 b a λy c=>h y (j0 _ c)];rfl
theorem Mg(a:Y2){b c:Int}(j:b<=c):∀ (d:Wp) (f:Int),(∀ e∈d,∀ x∈bq a e,0<=x)->↑(aW a (kE a b c f d))<=↑(aW a d)
 | [],_,_=>by simp[kE]
 | e::r,f,h=>by
  rw[kE,jQ,cF,cY,cY];let g:=Mg a j r (f+↑(bq a e)) (λe g=>h e (j0 _ g))
  let g:↑(aW a (LZ a b c f e))<=↑(bq a e):=by
   unfold LZ;split
   ·rw[cF];simp[aW]
   ·split
    ·simp[aW]
    ·rename_i g i;let i:=h e (by simp);rw[jQ,A2 a _ λx g=>i x (List.mem_of_mem_take g),A2 a _ λx g=>i x (List.mem_of_mem_drop g),cY,gI,qy];lia
  lia
theorem WU(a:Y2){b d:Int}(j:b<d):∀ (i:Wp) (f:Int),f<=b->b<f+↑(aW a i)->tE a b d f i≠[]
 | [],f,h,g=>by simp[aW]at g;lia
 | e::r,f,h,g=>by
  rw[cF,cY]at g;rw[tE];intro z;let⟨c,k⟩:=List.append_eq_nil_iff.mp z;by_cases g:f+↑(bq a e)<=b
  ·exact WU a j r (f+↑(bq a e)) g ∅ k
  ·unfold Ot at c;rw[if_neg (λy=>y.elim g ∅)]at c;split at c
   ·cases c
   ·rename_i g;let q:=congrArg List.length c;rw[qy,gI,oq]at q;lia
theorem Hr{b c:Y2}(p:Int):∀ (a:Wp) (f:Int),(∀ e∈a,bq b e=bq c e)->aE b p f a=aE c p f a
 | [],_,_=>rfl
 | e::r,f,h=>by rw[aE,aE,h e (by simp),Hr p r _ λx d=>h x (j0 _ d)]
theorem Hs{b c:Y2}(p:Int):∀ (a:Wp) (f:Int),(∀ e∈a,bq b e=bq c e)->bE b p f a=bE c p f a
 | [],_,_=>rfl
 | e::r,f,h=>by rw[bE,bE,h e (by simp),Hs p r _ λx d=>h x (j0 _ d)]
theorem Ht{a b:Y2}:∀ (d:Wp),(∀ y∈fj d,↑(b y)<=↑(a y))->↑(aW b d)<=↑(aW a d)
 | [],_=>by simp[aW]
 | e::r,h=>by
  rw[cF,cF,cY,cY]
  let c:=Ht (a:=a) (b:=b) r λy c=>h y (by
   let⟨f,g⟩:=cR.mp c
   exact cR.mpr ⟨f,j0 _ g⟩)
  let c:↑(bq b e)<=↑(bq a e):=by
   unfold bq;by_cases c:e<0
   ·rw[if_pos c,if_pos c];exact h _ (cR.mpr ⟨by lia,by rw[show -1-(-1-e)=e by lia];simp⟩)
   ·rw[if_neg c,if_neg c];exact fF _
  lia
structure o8(rows:dD)(sh:Y2)(rk:Int->Nat)(s a b:Int)(es:Wp)(rs:dD)(sg:Y2):Prop where
 snd:gZ rs
 nx:∀ x y,jX rs x y->jX rows x y
 QB:nh rs sg
 bd:∀ x:Int,0<=x->x<↑rs->↑(sg x)<=10000
 eq:∀ n,rk n<rk s->0<=n->n<↑rows->sg n=sh n
def RH{c:dD}{d:Y2}{e:Int->Nat}{s h i:Int}{a:Wp}(l:gZ c)(J:∀ x,e x<=40)(q:∀ x y,jX c x y->e y<e x)(C:nh c d)(N:∀ x:Int,0<=x->x<↑c->↑(d x)<=10000)(O:0<=s)(h1:s<↑c)(m:c[s.toNat]?=⇑a)(T:h<=i):∃ o,o8 c d e s h i a (c.set s.toNat (bZ d h i a)) o:=by
 let R:=oO l ⟨e,J,q⟩ C
 let L:∀ p∈a,∀ x∈bq d p,0<=x:=λp j x f=>by
  unfold bq at f;by_cases k:p<0
  ·rw[if_pos k]at f;let r:jX c s (-1-p):=⟨O,a,m,cR.mpr ⟨by lia,by rw[show -1-(-1-p)=p by lia];exact j⟩⟩;let⟨D,F⟩:=l.Fg r;exact R _ D F x f
  ·rw[if_neg k]at f;rw[List.mem_singleton.mp f];lia
 let t:∀ y∈fj (bZ d h i a),y∈fj a:=λy b=>by
  let⟨g,j⟩:=cR.mp b;refine cR.mpr ⟨g,?_⟩;unfold bZ at j;split at j
  ·exact j
  ·rcases RG d a 0 L _ j with z|z
   ·exact z
   ·lia
 let r:∀ x y,jX (c.set s.toNat (bZ d h i a)) x y->jX c x y:=by
  rintro x y ⟨g,G,f,b⟩;by_cases k:x.toNat=s.toNat
  ·rw[k,List.getElem?_set,if_pos rfl]at f;split at f
   ·cases f;exact⟨g,a,by rw[k];exact m,t y b⟩
   ·cases f
  ·rw[List.getElem?_set_ne (λz=>k z.symm)]at f;exact⟨g,G,f,b⟩
 let S:gZ (c.set s.toNat (bZ d h i a)):=λG j y b=>by
  rw[List.length_set];rcases List.mem_or_eq_of_mem_set j with z|z
  ·exact l G z y b
  ·subst z;exact l a (mC m) y (t y b)
 let⟨o,H⟩:=AY (a:=c.set s.toNat (bZ d h i a)) ⟨e,J,λx y u=>q x y (r x y u)⟩
 let U:(c.set s.toNat (bZ d h i a))[s.toNat]?=⇑(bZ d h i a):=by
  rw[List.getElem?_set,if_pos rfl,if_pos ∅]
 let M:∀ (v:Nat) (x:Int),e x<v->0<=x->x<↑c->(e x<e s->o x=d x)/\↑(o x)<=↑(d x):=by
  intro v
  induction v with
  | zero=>intro x u;lia
  | succ v I =>
   intro x f g w;by_cases k:x.toNat=s.toNat
   ·let W:x=s:=by lia
    subst W;refine⟨λz=>by lia,?_⟩;let A:=H x _ g U
    let B:aW o (bZ d h i a)=aW d (bZ d h i a):=qZ λy b=>by
     let n:=q x y ⟨g,a,m,t y b⟩;let⟨D,F⟩:=l.Fg ⟨g,a,m,t y b⟩;exact (I y ∅ D F).1 n
    rw[A,B,C x a g m];unfold bZ;split
    ·exact fF _
    ·exact Mg d T a 0 L
   ·let f:c[x.toNat]?=⇑c[x.toNat]:=nT ∅;let A:=H x _ g (by rw[List.getElem?_set_ne (λz=>k z.symm)];exact f);let B:=C x _ g f
    let low:∀ y∈fj c[x.toNat],e y<e x/\0<=y/\y<↑c:=λy b=>by
     let n:jX c x y:=⟨g,_,f,b⟩;exact⟨q x y n,l.Fg n⟩
    refine⟨λz=>?_,?_⟩
    ·rw[A,B];exact qZ λy b=>(I y (by have:=(low y b).1;lia) (low y b).2.1 (low y b).2.2).1 (by have:=(low y b).1;lia)
    ·rw[A,B];exact Ht _ λy b=>(I y (by have:=(low y b).1;lia) (low y b).2.1 (low y b).2.2).2
 refine⟨o,S,r,H,λx g w=>?_,λn u b f=>(M (e n+1) n (Nat.lt_succ_self _) b f).1 u⟩;rw[List.length_set]at w;have:=(M (e x+1) x (Nat.lt_succ_self _) g w).2;have:=N x g w;lia
def Vt{e:dD}{a j:Y2}{g:Int->Nat}{s c d h:Int}{b:Wp}(p:gZ e)(B:∀ x,g x<=40)(q:∀ x y,jX e x y->g y<g x)(r:nh e a)(m:0<=s)(t:e[s.toNat]?=⇑b)(u:0<=c)(C:c<=d)(D:d<=↑(a s))(n:o8 e a g s c d b (e.set s.toNat (bZ a c d b)) j)(v:(e.set s.toNat (bZ a c d b))[s.toNat]?=⇑(bZ a c d b)):gy j h (bZ a c d b) (iP a c d b)=mq a c d h b:=by
 unfold mq;by_cases f:c=d
 ·let k:iP a c d b=[]:=by unfold iP;rw[if_pos f]
  let l:bZ a c d b=b:=by unfold bZ;rw[if_pos f]
  rw[if_pos f,k,l];rfl
 ·rw[if_neg f];let k:iP a c d b=tE a c d 0 b:=by unfold iP;rw[if_neg f]
  let l:bZ a c d b=kE a c d 0 b:=by unfold bZ;rw[if_neg f]
  let w:tE a c d 0 b≠[]:=WU a ∅ b 0 u (by rw[← r s b m t];lia)
  let o:∀ f∈bZ a c d b,bq j f=bq a f:=λf z=>by
   unfold bq;by_cases i:f<0
   ·rw[if_pos i,if_pos i];let A:jX (e.set s.toNat (bZ a c d b)) s (-1-f):=⟨m,_,v,cR.mpr ⟨by lia,by rw[show -1-(-1-f)=f by lia];exact z⟩⟩;let f:=n.nx _ _ A;let⟨z,A⟩:=p.Fg f;exact n.eq _ (q _ _ f) z A
   ·rw[if_neg i,if_neg i]
  unfold gy;rw[k,if_neg w,Hr h _ 0 o,Hs h _ 0 o,l]
def N4{c:Cx}(j:c.calm=true):jB c (.builtin "max") (λa H Q=>∃ (p:Addr) (b:Wp),a=[↥p]/\bJ c.K H p (b.map V.int)/\0<↑b/\∀ M,M∈b->(∀ e∈b,e<=M)->Q (.int M) H):=by
 intro l s x H a y Q I r h;let⟨p,b,rfl,f,k,q⟩:=h;let⟨u,rfl,g⟩:=r.one;cases (show u=Value.ref p from g);let⟨g,h,l,r⟩:=I.list f;let f:PyProof.Rows.IntsAre g b:=intsAre_of h;let⟨a,g⟩:=f.allInts.items;let h:=l.isList
 let d:b=a.toList.map (·.1):=by
  rw[← f.numsOf,← PySem.nums_intItems,← g]
 let l:0<a.size:=by
  let f:=k;rw[d,b8,Array.length_toList]at f;exact f
 rw[g]at h;refine PySem.max_intList (I.ok.hd j) h l λf g h m n=>?_;let⟨t,rfl⟩:=PySem.intItems_at m;let⟨f,o⟩:=PySem.argBest_gt (PySem.numAt a) (a.size-1);refine⟨.int _,H,I.kept n,⟨t,1⟩,q _ ?_ λe i=>?_⟩
 ·rw[d,PySem.numAt_eq];exact PySem.getD_mem (by rw[b8,Array.length_toList];lia)
 ·rw[d]at i;let⟨v,w,rfl⟩:=PySem.mem_getD i;rw[b8,Array.length_toList]at w;rw[← PySem.numAt_eq];exact o v ∅
class inductive RI
 | mk (d:Y1) (r:Addr) (a:dD) (s:Int) (_:vs=[↥r,.int s]) (_:iM d H r a) (_:↑a<=40) (_:∀ e∈a,↑e<=100000) (_:gZ a) (_:0<=s) (_:s<↑a) (_:¬ Reach (jX a) s s->∀ x,¬ Reach (jX a) x x) (_:∀ (b:Bool) (c:Hp),aJ H c->(b=true->DU a/\∃ f,Weighs a f/\∀ x:Int,0<=x->x<↑a->f x<=200)->Q (.bl b) c)
theorem Hu:‹(43,106,["d","e"],RI)›:=λD=>by
 specialize eZ ["d","e"] D.Wj.F;let⟨n,r,c,s,rfl,R,x,g,d,s0,p,y,o⟩:=h;refine⟨_,#v[bN (aV Ck (pv 1) (aF D.Wi (A0 D) hr #[0,1]) rfl) #v[aK nG] bu,aK (kC gJ (cA (N4 rfl) rfl D.T.As PyProof.Rows.boot_max #[gO (N:=["_law_other","d"]) (jJ (c:=b9 t7) (f:=["d","e"]) (d:=[none,some 0]) rfl rfl rfl nofun nofun rfl nofun rfl nofun) rfl (jA rfl D.T.jO #[fR D.T.fE (pv 0)]) (λ_ _ _ _ _ _=>(bW 0)) (λ_ _ _ _ _ _=>gU) (λ_ _ _ _ _ _=>(aF D.Qn (rf D 41) hr #[1,0]))]) az (bz _))],?_⟩
 rfl'
 refine⟨Y,Y,Y,n,r,c,s,1,R,by lia,g,d,s0,p,λL g p B e C=>?_⟩;exists g,Y,.inl (bJ.of B),1,mF L,Y;rw[vC];by_cases g:s∈L
 ·rw[decide_eq_true g];exact iK (o false p e λz=>nomatch z)
 rw[decide_eq_false g];refine fT ?_;let j:=Zl d x (y λz=>g ((C s).mpr z));let⟨f,q⟩:=Nu j;let⟨F,G,I⟩:=id j;let t:=R.same e;let⟨vs,g,x⟩:=id t;let y:=x.len;let v:∀ i:Nat,↑((List.range i).map λb:Nat=>f (b:Int))=i:=λi=>by rw[b8,List.length_range]
 refine⟨Y,r,Y,.inl (bJ.of g),Y,by lia,by lia,λk w=>qR (lo:=0) (k:=((↑vs:Nat):Int).toNat) (λi l a=>∃ u:Option V,l=[u,⇑↥r]/\a k=⇑(.lst (((List.range i).map λb:Nat=>f (b:Int)).map V.int))/\aJ p a) ⟨none,1,af,ao w _⟩ ?_ ?_⟩
 ·rintro i l a z ⟨u,rfl,m,b⟩;let g:i<↑c:=by lia
  refine⟨Y,Y,n,r,c,0+(i:Int),f,F,1,t.same b,by lia,d,by lia,by lia,q,I,by have:=G (0+(i:Int));lia,_,m,(by rw[b8,v];exact aQ ∅),Y,?_,bQ w b (aI k _ _)⟩;rw[af,List.range_succ,gm,gm,Int.zero_add];rfl
 ·rintro l a ⟨u,rfl,m,b⟩;refine⟨k,Y,bJ.of m,by rw[v];lia,λM _ c=>⟨Z,?_⟩⟩;refine o _ a (e.trans b) λz=>⟨j,f,q,λx a b=>?_⟩;have y:=c (f x) (List.mem_map.mpr ⟨x.toNat,List.mem_range.mpr ∅,by rw[show ((x.toNat:Nat):Int)=x by lia]⟩);have:=of_decide_eq_true z;lia
def cU{a b:Str}(h:a≠b){A B:Prop}(z:B):if decide (V.str a=V.str b)=true then A else B:=by
 rw[if_neg λy=>h (V.str.inj (of_decide_eq_true y))];exact z
def jo{a:Str}{A B:Prop}(z:A):if decide (V.str a=V.str a)=true then A else B:=by
 rw[if_pos (decide_eq_true rfl)];exact z
def Ov.at_{W:Y1}{H:Hp}{a:Addr}{b:dD}(h:Ov W f g H a b):iM (λ_=>False) H a b:=by
 let⟨_,_,_,c,d,e⟩:=h;exact⟨c,d,e.mono λv i ⟨c,e,Q,d⟩=>⟨c,e,λz=>z,d⟩⟩
def jU{a:dD}{s:Int}(h:qV ↑a s):a[s.toNat]?=⇑(own a s):=by
 have:s.toNat<↑a:=by have:=h.1;have:=h.2;lia
 unfold own;rw[nT this];rfl
class inductive Mh
 | mk (W:Y1) (w e:Addr) (f:fY) (g:gT) (a:dD) (n:Nat) (b:Y2) (c:LD) (_:vs=[↥w,↥e]) (_:Wo 1000 aH W H w f g a) (_:c.At H e) (_:Gd n a b) (_:c.Ok n ↑a b) (_:n<=10000) (_:∀ (o:Addr) (d:Hp),d o=⇑(.lst ((c.res b a).map V.int))->↑(c.res b a)<=100000->aJ H d->H o=none->Q ↥o d)
theorem EI:‹(45,107,["a","p"],Mh)›:=λD=>by
 let C:aZ cX bf bV cW cV cQ 44 _ _ ["d","e","W","_law_new"] (J2 41):=J3 D;let Dr:aZ cX bf bV cW cV cQ 44 _ _ ["d","e","x","T"] (RA 41):=J4 D;specialize eZ ["a","p","d","_law_name","_law_kept","_law_taken"] D.Wk.F;let⟨W,bf,d,aC,pq,f,ak,i,dd,rfl,wo,e,g,p,an,B⟩:=h;let hu:=gM hr;exists _,#v[aY 2 (fK hu (pv 0) bw),aY 3 (aR bh (pv 1) az),bN (aV eV (pv 3) bw (bz _)) #v[aK (aF D.Gx C hr #[2,aR bh (pv 1) az,aR bh (pv 1) az,aF D.on (ED D) hr #[aR bh (pv 1) az]])] bu,bN (aV eV (pv 3) bw (bz _)) #v[aK (aR bh (aF D.Qm Dr hr #[2,aR bh (pv 1) az,aR bh (pv 1) az,aR bh (pv 1) az]) az)] bu,bN (aV eV (pv 3) bw (bz _)) #v[mS (aF D.Qm Dr hr #[2,aR bh (pv 1) az,aR bh (pv 1) az,aR bh (pv 1) az]) (j6 (n:=2) rfl (bR (bW 4) (bR (bW 5) gB))),aK (aF D.Gx C hr #[aF D.YB (yk D) hr #[2,aR bh (pv 1) az,4],aR bh (pv 1) az,aR bh (pv 1) az,5])] bu,bN (aV eV (pv 3) bw (bz _)) #v[aK (aF D.Gx C hr #[2,aR bh (pv 1) az,aR bh (pv 1) az,jb l6 (aF D.Gw (iR D 41) hr #[2,aR bh (pv 1) az]) (jj (aR bh (pv 1) az)) (jj (aR bh (pv 1) az))])] bu,bN (aV eV (pv 3) bw (bz _)) #v[aK (aF D.Gx C hr #[2,aR bh (pv 1) az,aR bh (pv 1) az,bM #[bG dH (iE gf az) (aR bh (pv 1) az)]])] bu,bN (aV eV (pv 3) bw (bz _)) #v[aK (aF D.Gw (iR D 41) hr #[2,aR bh (pv 1) az])] bu,aK (aR bK (aR bK (fK hu (pv 0) bw) (aR bh (pv 1) az)) (aR bh (pv 1) az))]
 rfl'
 let⟨ik,x,ps,vl,C⟩:=id wo;let zr:=gu.k (k:=kR) C.hw;rw[show cE (lK ik x ps vl) kR=⇑↥x by kernel_rfl]at zr;let R:=C.hr.at_;let⟨y,F,u⟩:=g.sn.rk;let C:=g.ln;let G:↑f<=1000:=by lia
 let M:∀ s,y s<=41:=λs=>by have:=F s;lia
 let ab:∀ m∈f,↑m<=25000:=λm I=>by have:=g.es m I;lia
 exists Y,bf,Y,zr
 let T:∀ {s v:Int} {C:Wp} {q o:Addr} {k:Hp} {Q:VK} {E:XK},qV ↑f s->iM (λ_=>False) k q f->k o=⇑(.lst (C.map V.int))->↑C<=25000->aJ H k->(∀ (o:Addr) (c:Hp),c o=⇑(.lst ((gy i v (own f s) C).map V.int))->↑(gy i v (own f s) C)<=100000->aJ H c->H o=none->Q ↥o c)->J2 41 [↥q,.int s,.int v,↥o] k Q E:=by
  intro s v C q o k Q E c r J L j O;refine⟨_,q,o,f,s,v,C,i,y,1,r,G,ab,g.sn.sd,g.sn.ss,g.sn.ln,u,c.1,c.2,M s,J,L,λm S N w z n l U=>?_⟩;rw[jU c]at w;cases w;exact O S N z n (j.trans l) (aU j U)
 cases dd with
 | put s v l row =>
  let⟨e,z⟩:=e;let⟨c,X,n,r⟩:=p;exists Y,d,Q,V,dN.of e,ux;refine⟨Y,1,Y,jo ?_⟩;let n:=Hh (k:=40) (a:=row) λq h=>by have:=r q h;lia
  refine⟨Y,Y,d,Q,V,dN.of e,vG,Y,d,Q,V,dN.of e,Bt,Y,d,Q,V,dN.of e,Bu,l,row,1,z,λq h=>by have:=r q h;lia,by lia,by lia,λL k w j O=>?_⟩;exact T c (R.same j) w ∅ j B
 | cut s a b =>
  let⟨c,n⟩:=p;exists Y,d,Q,V,dN.of e,ux;refine⟨Y,1,Y,cU nofun ⟨Y,1,Y,jo ?_⟩⟩;refine⟨Y,Y,d,Q,V,dN.of e,vG,Y,d,Q,V,dN.of e,Bt,Y,d,Q,V,dN.of e,Bu,_,x,f,s,a,b,i,y,1,R,G,(λm I=>by have:=g.es m I;lia),g.sn.sd,g.sn.ss,g.sn.ln,u,c.1,c.2,M s,n.2.1,λm U O ae k w X hL hM j fL fM ai=>?_⟩;rw[jU c]at w;cases w;refine⟨U,Q,V,dN.of X,ux,B O k hL ?_ j fL⟩;let C:=uG i a b (own f s);let S:=g.sl s c.1 c.2;rw[g.sn.ss s _ c.1 (jU c)]at S;have:=g.es _ (mC (jU c));show ↑(bZ i a b (own f s))<=_;lia
 | Vr s a b t =>
  let⟨c,mv⟩:=p;let n:=mv.1;let lo:=g.es _ (mC (jU c));let ak:=g.sn.ss s _ c.1 (jU c);let S:=g.sl s c.1 c.2;rw[ak]at S;let C:=uG i a b (own f s);let C:=A1 i a b (own f s);exists Y,d,Q,V,dN.of e,ux;refine⟨Y,1,Y,cU nofun ⟨Y,1,Y,cU nofun ⟨Y,1,Y,jo ?_⟩⟩⟩;refine⟨Y,Y,d,Q,V,dN.of e,vG,Y,d,Q,V,dN.of e,Bt,Y,d,Q,V,dN.of e,Bu,_,x,f,s,a,b,i,y,1,R,G,(λm I=>by have:=g.es m I;lia),g.sn.sd,g.sn.ss,g.sn.ln,u,c.1,c.2,M s,n.2.1,λm U O ae k w X hL hM j fL fM ai=>?_⟩;rw[jU c]at w;cases w;let⟨vs,am,al⟩:=R.same j;let w:=al.len;let w:=c.1;let w:=c.2;let J:=j _ _ e;exists U,Y,dN.of X,1,E,1,Z;refine⟨Y,Y,d,Q,V,dN.of J,vG,Y,x,O,s.toNat,vs,(by rw[show ((s.toNat:Nat):Int)=s by lia];rfl),am,by lia,by lia,λq N r l w=>?_⟩;let ag:=l _ _ J;let⟨sg,L⟩:=RH (h:=a) (i:=b) g.sn.sd F u g.sn.ss g.sn.ln c.1 c.2 (jU c) n.2.1
  let Vs:(f.set s.toNat (bZ i a b (own f s)))[s.toNat]?=⇑(bZ i a b (own f s)):=by
   rw[List.getElem?_set,if_pos rfl,if_pos ∅]
  let R2:iM (λ_=>False) N q (f.set s.toNat (bZ i a b (own f s))):=⟨_,r,cP.set _ (al.mono λw m z=>gw.same l z) ⟨O,1,λz=>z,l _ _ hL⟩⟩
  refine⟨Y,d,Q,V,dN.of ag,vG,Y,d,Q,V,dN.of ag,Uk,Y,_,q,ae,_,s,t,iP i a b (own f s),sg,y,1,R2,by rw[List.length_set];lia,(λv7 hm=>by
   rcases List.mem_or_eq_of_mem_set hm with z|z
   ·exact ab v7 z
   ·rw[z];lia),L.snd,L.QB,L.bd,(λm w h=>u m w (L.nx m w h)),c.1,by rw[List.length_set];exact c.2,M s,l _ _ hM,by lia,λv7 o H3 Lz h3 l3 s3 f3=>?_⟩
  rw[Vs]at Lz;cases Lz;rw[Vt g.sn.sd F u g.sn.ss c.1 (jU c) n.1 n.2.1 n.2.2 L Vs]at h3 l3;exact B o H3 h3 l3 (j.trans (l.trans s3)) (aU (j.trans l) f3)
 | WT t v s a b =>
  let⟨U,X,c,n⟩:=p;exists Y,d,Q,V,dN.of e,ux;refine⟨Y,1,Y,cU nofun ⟨Y,1,Y,cU nofun ⟨Y,1,Y,cU nofun ⟨Y,1,Y,jo ?_⟩⟩⟩⟩;let S:=g.sl s c.1 c.2;refine⟨Y,Y,d,Q,V,dN.of e,vG,Y,d,Q,V,dN.of e,Bt,Y,Y,d,Q,V,dN.of e,Bu,_,x,f,s,i,y,1,R,G,g.sn.sd,c.1,c.2,g.sn.ss,g.sn.ln,u,by have:=F s;lia,λL k w j O=>?_⟩;let J:=j _ _ e;refine⟨Y,d,Q,V,dN.of J,Uk,Y,Y,d,Q,V,dN.of J,j',Y,L,Y,bJ.of w,λq r=>?_⟩;let l:=ao r (.lst (kL ((i s).map V.int) (⇑a) (⇑b)));let z:(aO k q (.lst (kL ((i s).map V.int) (⇑a) (⇑b)))) q=⇑(.lst ((((i s).take b.toNat).drop a.toNat).map V.int)):=by rw[af,GZ _ n.1 (by have:=n.1;have:=n.2.1;lia),List.map_drop,List.map_take]
  generalize aO k q (.lst (kL ((i s).map V.int) (⇑a) (⇑b)))=N at l z;exact T U (R.same (j.trans l)) z (by rw[qy,gI];lia) (j.trans l) B
 | win t v s =>
  let⟨U,X,c⟩:=p;exists Y,d,Q,V,dN.of e,ux;refine⟨Y,1,Y,cU nofun ⟨Y,1,Y,cU nofun ⟨Y,1,Y,cU nofun ⟨Y,1,Y,cU nofun ⟨Y,1,Y,jo ?_⟩⟩⟩⟩⟩;refine⟨Y,Y,d,Q,V,dN.of e,vG,Y,d,Q,V,dN.of e,Bt,Y,Y,d,Q,V,dN.of e,Bu,Z,mh,λq r=>?_⟩;exact T U (R.same (ao r _)) af (by show 1<=25000;decide) (ao r _) B
 | fix s =>
  exists Y,d,Q,V,dN.of e,ux;refine⟨Y,1,Y,cU nofun ⟨Y,1,Y,cU nofun ⟨Y,1,Y,cU nofun ⟨Y,1,Y,cU nofun ⟨Y,1,Y,cU nofun ⟨Y,1,Y,jo ?_⟩⟩⟩⟩⟩⟩;exact⟨Y,Y,d,Q,V,dN.of e,vG,_,x,f,s,i,y,1,R,G,g.sn.sd,p.1,p.2,g.sn.ss,g.sn.ln,u,by have:=F s;lia,λL k w j O=>B L k w (by have:=g.sl s p.1 p.2;show ↑(i s)<=_;lia) j O⟩
theorem RJ{n:Nat}{a:Row}(h:∀ z∈a,0<=z.1/\z.1<z.2/\z.2<=(n:Nat)):oj n a=true:=List.all_eq_true.mpr λq b=>by
 have:=h q b;unfold Q0;simp only[Bool.and_eq_true,decide_eq_true_eq];lia
def Vu:Sp:=λ_ _ _ _=>False
theorem RK{k:Nat}{f:Addr}{a:UV}:aZ P w K mg zt cQ k f c a Vu:=⟨λb H Q E h=>h.elim,λA d s H args e b Q E _ _ _ _ h=>h.elim⟩
def pb{i:Int}(a:0<=i)(b:i<=20000):v8 i:=by
 let c:(20000:Int)<10^60:=by decide
 exact⟨by lia,by lia⟩
class inductive RL(C CS CW CB:Addr)
 | mk (U:Y1) (x h:Addr) (d:gT) (f:gS) (c:fY) (i:Nat × Kd) (j:Row) (a:dD) (e:Y2) (b:LD) (_:vs=[↥x,↥h]) (_:mL C CS CW CB U H x d f c i j) (_:d.getLast?=⇑a) (_:↑d<=900) (_:↑f<=900) (_:↑c<=10000) (_:b.At H h) (_:Gd ↑c a e) (_:b.Ok ↑c ↑a e) (_:∃ m,nB (iW a b.sh.toNat (b.res e a)) m) (_:∀ (k:Y1) (g:Hp) (l:gS),↑l=↑f+1->mL C CS CW CB k g x (d++[iW a b.sh.toNat (b.res e a)]) l c i j->rT U k H g->Q .gc g)
theorem Hv:‹(7,109,["f","p"],(RL eK cH cT dB))›:=λD=>by
 let BK:aZ cX bf bV cW cV cQ 4 (dQ 69) (dR 69) ["c","q","text"] Vu:=RK;let A3:aZ cX bf bV cW cV cQ 4 (dQ 66) (dR 66) ["c"] Vu:=RK;let BL:aZ cX bf bV cW cV cQ 4 (dQ 108) (dR 108) ["c","g","P"] Vu:=RK;specialize eZ ["f","p","_law_name"] D.Wl.F;let⟨U,x,d,C,q,u,F,G,n,v,dd,rfl,w,I,J,L,l4,c,X,y,M,N⟩:=h;exists _,#v[aY 2 (aR bh (pv 1) az),bN (aV eV (pv 2) bw (bz _)) #v[aK (cL (pv 0) D.aM D.Yx BK hr bH #[aR bh (pv 1) az,aR bh (pv 1) az])] bu,bN (aV eV (pv 2) bw (bz _)) #v[aK (fD (pv 0) D.aM D.Yv A3 hr bH)] bu,bN (aV eV (pv 2) bw (bz _)) #v[aK (cL (pv 0) D.aM D.mB (AR D) hr bH #[aR bh (pv 1) az,aR bh (pv 1) az,fP gK rfl D.T.jv tR #[aR bh (pv 1) az]])] bu,bN (aV eV (pv 2) bw (bz _)) #v[aK (cL (pv 0) D.aM D.mI (AS D) hr bH #[aR bh (pv 1) az,aR bh (pv 1) az,aR bh (pv 1) az])] bu,bN (aV eV (pv 2) bw (bz _)) #v[aK (cL (pv 0) D.aM D.mZ (yE D) hr bH #[aR bh (pv 1) az,aR bh (pv 1) az,aR bh (pv 1) az,aR bh (pv 1) az])] bu,bN (aV eV (pv 2) bw (bz _)) #v[aK (cL (pv 0) D.aM D.mM (xx D) hr bH #[aR bh (pv 1) az,aR bh (pv 1) az,aR bh (pv 1) az,aR bh (pv 1) az,aR bh (pv 1) az])] bu,bN (aV eV (pv 2) bw (bz _)) #v[aK (cL (pv 0) D.aM D.mN (vW D) hr bH #[aR bh (pv 1) az,aR bh (pv 1) az,aR bh (pv 1) az])] bu,bN (aV eV (pv 2) bw (bz _)) #v[aK (cL (pv 0) D.aM D.mV (AU D) hr bH #[aR bh (pv 1) az])] bu,aK (cL (pv 0) D.aM D.vk BL hr bH #[aR bh (pv 1) az,aR bh (pv 1) az])]
 rfl'
 let ab:=X.ln;let O:↑n<=50:=by lia
 let R:=X.sn;let S:∀ {ab:List Nat},↑(q++[ab])=↑q+1:=λ{ab}=>by rw[cY];rfl
 let r:∀ {s:Int},qV ↑n s->v8 s:=λz=>pb z.1 (by have:=z.2;lia);have B:∀ {s p:Int},qV ↑n s->0<=p->p<=↑(v s)->v8 p:=λz p0 p1=>pb p0 (by have:=X.sl _ z.1 z.2;lia);let⟨S',NR,T,UB,Vj,Ze,Zf,Zg,Zh,Zi,Bg,DE,ZU,ZV,ZW,ZX,ab,ae,BG,LU⟩:=id w;have W:=LU.L.hx
 cases dd with
 | put s p ab row =>
  let⟨c,JI⟩:=c;let⟨e,i,r2,hq⟩:=y;let hh:=RJ (n:=↑u) (a:=row) λz h=>by have:=hq z h;exact⟨this.1,this.2.1,this.2.2.1⟩
  let⟨o,ha,pa⟩:=id JI;exists Y,d,Q,V,dN.of c,ux;refine⟨Y,1,Y,cU nofun ⟨Y,1,Y,cU nofun ⟨Y,1,Y,jo ?_⟩⟩⟩;refine⟨Y,x,T,Y,W,1,Y,d,Q,V,dN.of c,vG,Y,d,Q,V,dN.of c,Bt,Y,d,Q,V,dN.of c,Bu,ab,Y,.inl (bJ.of ha),λf Xu=>?_⟩;let s1:=ao Xu (.lst (o.map V.ref));let Na:bU (aO H f (.lst (o.map V.ref))) f row:=⟨o,af,pa.same s1⟩;generalize aO H f (.lst (o.map V.ref))=o at s1 Na;refine⟨U,x,f,C,q,u,F,G,row,s,p,n,1,w.same s1,Na,⟨by lia,λz h=>by have:=hq z h;exact⟨⟨by lia,by lia⟩,⟨by lia,by lia⟩⟩⟩,by lia,I,O,J,L,r e,B e i.1 i.2,e,hh,⟨v,R,i,λes g=>?_⟩⟩;rw[jU e]at g;cases g
  let o:d9 (dz (cJ row))=bg row:=by
   rw[oN,kM _ λf h=>by have:=hq f h;lia]
  rw[o];exact⟨M,λj k l m=>N j k _ S l (m.pre s1)⟩
 | cut s a b =>
  let⟨e,f⟩:=y;exists Y,d,Q,V,dN.of c,ux;refine⟨Y,1,Y,cU nofun ⟨Y,1,Y,cU nofun ⟨Y,1,Y,cU nofun ⟨Y,1,Y,jo ?_⟩⟩⟩⟩;refine⟨Y,x,T,Y,W,1,Y,d,Q,V,dN.of c,vG,Y,d,Q,V,dN.of c,Bt,Y,d,Q,V,dN.of c,Bu,U,x,C,q,u,F,G,s,a,b,n,1,w,I,O,J,L,r e,B e f.1 (by have:=f.2.1;have:=f.2.2;lia),B e (by have:=f.2.1;have:=f.1;lia) f.2.2,e,⟨v,R,f,λes g=>?_⟩⟩;rw[jU e]at g;cases g;exact⟨M,λj k l m=>N j k _ S l m⟩
 | Vr s a b t =>
  let⟨e,i⟩:=y;let f:=i.1;let o:=f.1;let o:=f.2.1;let o:=f.2.2;let o:=i.2;let o:=X.sl s e.1 e.2;exists Y,d,Q,V,dN.of c,ux;refine⟨Y,1,Y,cU nofun ⟨Y,1,Y,cU nofun ⟨Y,1,Y,cU nofun ⟨Y,1,Y,cU nofun ⟨Y,1,Y,jo ?_⟩⟩⟩⟩⟩;refine⟨Y,x,T,Y,W,1,Y,d,Q,V,dN.of c,vG,Y,d,Q,V,dN.of c,Bt,Y,d,Q,V,dN.of c,Bu,Y,d,Q,V,dN.of c,Uk,U,x,C,q,u,F,G,s,a,b,t,n,1,w,I,O,J,L,r e,⟨by lia,by lia⟩,⟨by lia,by lia⟩,⟨by lia,by lia⟩,e,⟨v,R,i,λes g=>?_⟩⟩;rw[jU e]at g;cases g;exact⟨M,λj k l m=>N j k _ S l m⟩
 | WT t p s a b =>
  let⟨o,i,e,f⟩:=y;exists Y,d,Q,V,dN.of c,ux;refine⟨Y,1,Y,cU nofun ⟨Y,1,Y,cU nofun ⟨Y,1,Y,cU nofun ⟨Y,1,Y,cU nofun ⟨Y,1,Y,cU nofun ⟨Y,1,Y,jo ?_⟩⟩⟩⟩⟩⟩;refine⟨Y,x,T,Y,W,1,Y,d,Q,V,dN.of c,vG,Y,d,Q,V,dN.of c,Bt,Y,d,Q,V,dN.of c,Bu,Y,d,Q,V,dN.of c,Uk,Y,d,Q,V,dN.of c,j',U,x,C,q,u,F,G,t,p,s,a,b,n,1,w,I,O,J,L,r o,B o i.1 i.2,r e,B e f.1 (by have:=f.2.1;have:=f.2.2;lia),B e (by have:=f.2.1;have:=f.1;lia) f.2.2,o,e,⟨v,R,f,⟨i,λes g=>?_⟩⟩⟩;rw[jU o]at g;cases g;exact⟨M,λj k l m=>N j k _ S l m⟩
 | win t p s =>
  let⟨o,i,e⟩:=y;exists Y,d,Q,V,dN.of c,ux;refine⟨Y,1,Y,cU nofun ⟨Y,1,Y,cU nofun ⟨Y,1,Y,cU nofun ⟨Y,1,Y,cU nofun ⟨Y,1,Y,cU nofun ⟨Y,1,Y,cU nofun ⟨Y,1,Y,jo ?_⟩⟩⟩⟩⟩⟩⟩;refine⟨Y,x,T,Y,W,1,Y,d,Q,V,dN.of c,vG,Y,d,Q,V,dN.of c,Bt,Y,d,Q,V,dN.of c,Bu,U,x,C,q,u,F,G,t,p,s,n,1,w,I,O,J,L,r o,B o i.1 i.2,r e,o,e,⟨v,R,i,λes g=>?_⟩⟩;rw[jU o]at g;cases g;exact⟨M,λj k l m=>N j k _ S l m⟩
 | fix s =>
  exists Y,d,Q,V,dN.of c,ux;refine⟨Y,1,Y,cU nofun ⟨Y,1,Y,cU nofun ⟨Y,1,Y,cU nofun ⟨Y,1,Y,cU nofun ⟨Y,1,Y,cU nofun ⟨Y,1,Y,cU nofun ⟨Y,1,Y,cU nofun ⟨Y,1,Y,jo ?_⟩⟩⟩⟩⟩⟩⟩⟩;refine⟨Y,x,T,Y,W,1,Y,d,Q,V,dN.of c,vG,U,x,C,q,u,F,G,s,n,1,w,I,O,J,L,r y,y,⟨v,R,M,λj k l m=>N j k _ S l m⟩⟩
class inductive RN
 | mk (l c w:Addr) (W:Y1) (d:fY) (f:gT) (g:dD) (_:vs=[↥l,↥w]) (_:dM H l c) (_:Wo 1000 aH W H w d f g) (_:(∀ a,W a->a≠l/\a≠c)) (_:↑d<=50000) (_ :
 ∀ (r:Addr) (e:Row) (b:Hp),↑e<=2->bU b r e->(∀ p∈e,0<=p.1/\p.1<p.2/\p.2<=↑d/\p.2<=p.1+40)->H r=none->dM b l c->cD l H b->Q ↥r b)
theorem A4:‹(2,110,["b","a"],RN)›:=λD=>by
 let m:aZ cX bf bV cW cV cQ 1 _ _ ["b","I"] uf:=fN D;specialize eZ ["b","a","M","9","_law_k","x","_law_span"] D.Wm.F;let⟨l,i,bf,W,b,x,rq,rfl,S,O,dw,N,ab⟩:=h;let x:=gM hr;exists _,#v[aY 2 (fR D.T.fE (fK x (pv 1) bw)),aY 3 (bM ah),eO PassesOwn.never rfl (jA rfl D.T.jO #[bG IP (aF D.uM m hr #[0,az]) (cA (oA rfl) rfl D.T.Gq PyProof.Rows.boot_min #[az,2])]) (bW 4) #v[aY 5 (aF D.uM m hr #[0,cA (mD rfl) rfl D.T.As PyProof.Rows.boot_max #[az,2]]),aY 6 (bG dY az (aF D.uM m hr #[0,cA (mD rfl) rfl D.T.As PyProof.Rows.boot_max #[az,cA (oA rfl) rfl D.T.Gq PyProof.Rows.boot_min #[aR bK (bM #[az,az,az,az]) (aF D.uM m hr #[0,az]),bG dH (pv 2) (pv 5)]]])),aT (dZ oS jE jF bX (pv 3) #[c9 #[5,bG dY (pv 5) (pv 6)]])],aK (pv 3)]
 rfl'
 let⟨m,rw,ps,vl,x⟩:=id O;let⟨as,yj,O⟩:=id x.hi;let la:=Paired.length O;let O:=gu.k (k:=kI) x.hw;rw[show cE (lK m rw ps vl) kI=⇑↥m by kernel_rfl]at O;exists Y,bf,Y,O,m,Y,.inl (bJ.of yj);refine⟨iz,λr o=>?_⟩;let w:=ao o (.lst []);let R:(aO H r (.lst [])) r=⇑(.lst []):=af;let s:=S.ne o;let T:=S.same w;generalize aO H r (.lst [])=m at w R T;refine⟨Y,l,i,3,1,T,by decide,by decide,λU m x O S2 X=>?_⟩;rw[show ↑(as.map V.ref)=↑b by rw[b8,la]];refine⟨Y,E,1,Z,.inl ⟨by lia,by lia⟩,?_⟩
 let hm:∃ n:Nat,(U*(if (↑b:Int)<1 then (↑b:Int) else 1))=n/\n<=2/\(0<n->1<=↑b):=by
  split
  ·rename_i z;refine⟨0,?_,by lia,by lia⟩;rw[show (↑b:Int)=0 by lia];exact Int.mul_zero _
  ·exact⟨U.toNat,by rw[Int.mul_one];lia,by lia,λ_=>by lia⟩
 let⟨n,en,m,n1⟩:=hm
 let u:(if (↑b:Int) > 1 then (↑b:Int) else 1)=if 1<=↑b then (↑b:Int) else 1:=by split <;> split <;> lia
 refine⟨n,congrArg (λz=>[V.int z]) en,by lia,by lia,oz (lo:=0) (n:=((n:Nat):Int).toNat) (λm B f=>∃ (C F G:Option V) (d:Row),B=[⇑↥l,⇑↥bf,⇑(.int (↑b:Nat)),⇑↥r,C,F,G]/\bU f r d/\↑d=m/\(∀ p∈d,0<=p.1/\p.1<p.2/\p.2<=↑b/\p.2<=p.1+40)/\dM f l i/\cD l H f) ⟨none,none,none,[],1,⟨[],(X r s.1.symm).trans R,.nil⟩,1,(λp j=>nomatch j),S2,(_gE.aJ.keep w).trans (bO X)⟩ ?_ ?_⟩
 ·rintro m B f hj ⟨C,F,G,d,rfl,I,lr,j,v,J⟩;let m:1<=↑b:=n1 ∅;rw[if_pos m]at u;refine⟨Y,Y,E,1,l,i,Y,v,(by rw[u];lia),(by rw[u];lia),λa H4 a0 w m k4=>?_⟩;rw[u]at w;refine⟨Y,D7,λt u=>?_⟩;let L:=ao u (.lst [.int 4,.int 4,.int 4,.int 40]);let h5:(aO H4 t (.lst [.int 4,.int 4,.int 4,.int 40])) t=⇑(.lst [.int 4,.int 4,.int 4,.int 40]):=af;let nt:=m.ne u;let S5:=m.same L;generalize aO H4 t (.lst [.int 4,.int 4,.int 4,.int 40])=m at L h5 S5;refine⟨Y,l,i,4,1,S5,by decide,by decide,λM u m w S6 k6=>?_⟩;let⟨z,g,ez⟩:=Hf (a:=[V.int 4,.int 4,.int 4,.int 40]) m (by show M<4;lia)
  obtain⟨q,rfl,m,u⟩:∃ q:Int,z=.int q/\4<=q/\q<=40:=by
   rcases List.mem_cons.mp g with y|g
   ·exact⟨4,y,by decide,by decide⟩
   rcases List.mem_cons.mp g with y|g
   ·exact⟨4,y,by decide,by decide⟩
   rcases List.mem_cons.mp g with y|g
   ·exact⟨4,y,by decide,by decide⟩
   ·exact⟨40,List.mem_singleton.mp g,by decide,by decide⟩
  exists t,Q,V,bJ.of ((k6 t nt.1.symm).trans h5),ez
  let hX:∃ x:Int,(if (if (↑b:Int)-a<q then (↑b:Int)-a else q) > 1 then (if (↑b:Int)-a<q then (↑b:Int)-a else q) else 1)=x/\1<=x/\x<=↑b-a/\x<=40:=⟨Y,by split <;> split <;> lia,by split <;> split <;> lia,by split <;> split <;> lia⟩
  let⟨b,g,m,M2,q⟩:=hX;refine⟨Y,Y,Z,E,1,E,1,l,i,Y,S6,(by rw[g];lia),(by rw[g];lia),λc b i N u m=>⟨Z,?_⟩⟩;rw[g]at N;let i:cD l f b:=(((bO k4).trans (_gE.aJ.keep L)).trans (bO k6)).trans (bO m);let⟨q,t,g⟩:=I;let⟨m,w⟩:=v.lst;let m:=i _ _ t s.1.symm;let x:bx b q d:=g.tups λa z e=>i _ _ e (cS e w);have t:=Paired.length g;refine⟨Y,.inl ⟨1,_,bJ.of m⟩,Y,Y,Y,Z,mj,λp t=>⟨r,Z,ao t _ _ _ m,(by rw[b8];exact aQ ∅),?_⟩⟩;have g:=ao t (.tup [.int a,.int (a+(1+c))]);have t:(aO b p (.tup [.int a,.int (a+(1+c))])) p=⇑(.tup [.int a,.int (a+(1+c))]):=af;have ae:=g _ _ m;have S8:=u.same g;have K8:cD l H (aO b p (.tup [.int a,.int (a+(1+c))])):=(J.trans i).trans (_gE.aJ.keep g);have b:=bx.snoc (p:=(a,a+(1+c))) (x.same g) t;refine⟨Q,d++[(a,a+(1+c))],1,⟨q++[p],by rw[gm];exact af,b.tups λy z e=>?_⟩,by rw[cY,lr];rfl,λy k=>?_,?_,λy b e n=>?_⟩
  ·exact (aN (cS e ae)).trans e
  ·rcases List.mem_append.mp k with k|k
   ·exact j y k
   ·rw[List.mem_singleton.mp k];exact⟨a0,by show a<a+(1+c);lia,by show a+(1+c)<=_;lia,by show a+(1+c)<=a+40;lia⟩
  ·let⟨n,a,M,b,c,g,i,k⟩:=S8;exact⟨n,a,M,b,c,(aN s.1).trans g,(aN s.2).trans i,k⟩
  ·exact (aN (aB e o)).trans (K8 _ _ e n)
 rintro B f ⟨C,F,G,d,rfl,I,lr,j,v,J⟩;exact⟨Y,ab r d f ∅ I j o v J⟩
class inductive RO
 | mk (l e:Addr) (s m:Int) (_:vs=[↥l,.int s,.int m]) (_:dM H l e) (_:0<=m) (_:m<=10000) (_:∀ (a b u:Int) (t:Addr) (d:LD) (c:Hp),Mv a b u m->(d=.cut s a b\/d=.Vr s a b u)->d.At c t->dM c l e->cD l H c->Q ↥t c)
theorem A5:‹(2,111,["b","e","_law_room"],RO)›:=λD=>by
 let c:aZ cX bf bV cW cV cQ 1 _ _ ["b","I"] uf:=fN D;specialize eZ ["b","e","_law_room","x","T"] D.Wn.F;let⟨l,d,s,g,rfl,S,i,j,k⟩:=h;exists _,#v[aY 3 (aF D.uM c hr #[0,bG dY (pv 2) az]),aY 4 (bG dY (pv 3) (aF D.uM c hr #[0,bG dY (bG dH (pv 2) (pv 3)) az])),bN (aV eV (aF D.uM c hr #[0,az]) az (bz _)) #v[aK (c9 #[bw,1,3,4])] bu,aK (c9 #[bw,1,3,4,aF D.uM c hr #[0,bG dY (bG dY (bG dH (pv 2) (pv 4)) (pv 3)) az]])]
 rfl'
 refine⟨Y,Y,Z,l,d,Y,S,by lia,by lia,λa i j o c g=>?_⟩;refine⟨Y,Y,Y,Y,Z,Z,l,d,Y,c,by lia,by lia,λv j o p c i=>⟨Z,?_⟩⟩;refine⟨Y,l,d,2,1,c,by decide,by decide,λz c _ _ e j=>⟨1,Y,?_⟩⟩;let f:cD l H c:=((bO g).trans (bO i)).trans (bO j);refine dO (λ_=>?_) (λ_=>?_)
 ·refine⟨Y,Y,Y,D7,λt b=>?_⟩;exact k a (a+v) 0 t (.cut s a (a+v)) _ ⟨⟨by lia,by lia,by lia⟩,by lia,by lia⟩ (.inl rfl) af (e.same (ao b _)) (f.trans (_gE.aJ.keep (ao b _)))
 ·refine⟨Y,Y,Y,Y,Y,Y,Z,Y,Z,Z,l,d,Y,e,by lia,by lia,λu c d e m n=>⟨Ye,λt b=>?_⟩⟩;exact k a (a+v) u t (.Vr s a (a+v) u) _ ⟨⟨by lia,by lia,by lia⟩,by lia,by lia⟩ (.inr rfl) af (m.same (ao b _)) ((f.trans (bO n)).trans (_gE.aJ.keep (ao b _)))
def LD.wh(H:Hp):LD->Prop
 | .put _ _ r _=>H r=none
 | _=>True
class inductive RP
 | mk (W:Y1) (l e w:Addr) (b:fY) (h:gT) (c:dD) (g:Y2) (_:vs=[↥l,↥w]) (_:dM H l e) (_:Wo 1000 aH W H w b h c) (_:∀ a,W a->a≠l/\a≠e) (_:Gd ↑b c g) (_:1<=↑c) (_:↑b<=10000) (_:∀ (t:Addr) (f:LD) (d:Hp),f.At d t->f.Ok ↑b ↑c g->f.wh H->dM d l e->cD l H d->Q ↥t d)
theorem Hw:‹(43,112,["b","a"],RP)›:=λD=>by
 let b:aZ cX bf bV cW cV cQ 1 _ _ ["b","I"] uf:=fN D;specialize eZ ["b","a","d","_law_way","e","_law_other","_law_room","W","x"] D.Wq.F;let⟨W,l,i,bf,z,B,f,C,rfl,S,x,F,g,k,q,v⟩:=h;let k:=gM hr;exists _,#v[aY 2 (fK k (pv 1) bw),aY 3 (aF D.uM b hr #[0,az]),aY 4 (aF D.uM b hr #[0,fR D.T.fE (pv 2)]),aY 5 (aF D.uM b hr #[0,fR D.T.fE (pv 2)]),aY 6 (fR D.T.fE (aF D.Gw (iR D 41) hr #[2,4])),aY 7 (aF D.uM b hr #[0,bG dY (pv 6) az]),bN (aV kJ (pv 3) az (bz _)) #v[aK (c9 #[bw,4,7,aF D.Wm (A4 D) hr #[0,1]])] bu,bN (aV kJ (pv 3) az (bz _)) #v[aK (aF D.Wn (A5 D) hr #[0,4,6])] bu,bN (aV kJ (pv 3) az (bz _)) #v[aY 6 (fR D.T.fE (aF D.Gw (iR D 41) hr #[2,5])),aY 8 (aF D.uM b hr #[0,bG dY (pv 6) az]),aK (c9 #[bw,4,7,5,8,bG dY (pv 8) (aF D.uM b hr #[0,bG dY (bG dH (pv 6) (pv 8)) az])])] bu,bN (aV kJ (pv 3) az (bz _)) #v[aK (c9 #[bw,4,7,5])] bu,aK (c9 #[bw,4])]
 rfl'
 let⟨b,j,k,U,q⟩:=id x;let M:=gu.k (k:=kR) q.hw;rw[show cE (lK b j k U) kR=⇑↥j by kernel_rfl]at M;let b:=g.ln;let⟨N,O,R⟩:=id g.sn.rk;let⟨U,X⟩:=S.lst;obtain⟨k,x⟩:∃ k,Wo 1000 k W H bf z B f:=⟨_,x⟩;let kp:∀ {b:Hp},cD l H b->iM (λ_=>False) b j f/\Wo 1000 k W b bf z B f:=λ{b} k=>⟨(q.hr.fr (λ_ a=>a) λc q e a _ _=>k _ _ e (F c a).1).at_,x.fr (λc ob e a=>k _ _ e (F c a).1) λc q e=>k _ _ e (cS e X)⟩
 let x:∀ {b:Hp},cD l H b->∃ q,b j=⇑(.lst q)/\↑q=↑f:=λ{b} k=>by
  let⟨q,e,a⟩:=(kp k).1;exact⟨q,e,a.len⟩
 exists Y,bf,Y,M;refine⟨Y,l,i,13,1,S,by decide,by decide,λS b X y1 q M=>?_⟩;let k:cD l H b:=bO M;let⟨M,b,S⟩:=x k;refine⟨Y,Y,j,Y,.inl (bJ.of b),l,i,Y,q,by lia,by lia,λs q M b S X=>?_⟩;let b:cD l H q:=k.trans (bO X);let⟨q,k,X⟩:=x b;refine⟨Y,Y,j,Y,.inl (bJ.of k),l,i,Y,S,by lia,by lia,λo q x k S X=>?_⟩;let k:cD l H q:=b.trans (bO X);let d:qV ↑f s:=⟨M,by lia⟩;let r:qV ↑f o:=⟨x,by lia⟩;let U:=g.sl s d.1 d.2;let lo:=g.sl o r.1 r.2;refine⟨Y,Y,_,j,f,s,C,N,1,(kp k).1,by lia,g.sn.sd,d.1,d.2,g.sn.ss,g.sn.ln,R,by have:=O s;lia,λx M b q U=>⟨x,Y,.inl (bJ.of b),?_⟩⟩;rw[b8];let x:cD l H M:=k.trans (_gE.aJ.keep q);refine⟨Y,Y,Z,l,i,Y,S.same q,by lia,by lia,λp k q S u M=>?_⟩;let m:cD l H k:=x.trans (bO M);let G:0<=p/\p<=↑(C s):=⟨q,by lia⟩;refine⟨Y,Z,Y,dO (λ_=>?_) (λ_=>?_)⟩
 ·refine⟨Y,Y,Y,Y,l,i,bf,W,z,B,f,1,u,(kp m).2,F,by lia,λw k I q x b y J L=>⟨D7,λt n=>?_⟩⟩;let a:=ao n (.tup [.str "put",.int s,.int p,↥w]);refine v t (.put s p w k) _ ⟨af,x.same a⟩ ⟨d,G,q,b⟩ ?_ (J.same a) ((m.trans L).trans (_gE.aJ.keep a));show H w=none
  cases e:H w with
  | none=>rfl
  | some ob =>
   exfalso;by_cases T:w=l
   ·let⟨_,b⟩:=u.lst;rw[T,b]at y;cases y
   ·rw[m _ _ e T]at y;cases y
 refine⟨Y,Z,Y,dO (λ_=>?_) (λ_=>?_)⟩
 ·refine⟨Y,Y,Y,l,i,s,Y,u,by lia,by lia,λc k q t b I a n e J L=>v t b I e ?_ ?_ J (m.trans L)⟩
  ·rcases n with rfl|rfl
   ·exact⟨d,a.1⟩
   ·exact⟨d,a⟩
  ·rcases n with rfl|rfl <;> trivial
 refine⟨Y,Z,Y,dO (λ_=>?_) (λ_=>?_)⟩
 ·refine⟨Y,Y,_,j,f,o,C,N,1,(kp m).1,by lia,g.sn.sd,r.1,r.2,g.sn.ss,g.sn.ln,R,by have:=O o;lia,λe I f b g=>⟨e,Y,.inl (bJ.of f),?_⟩⟩;rw[b8];refine⟨Y,Y,Z,l,i,Y,u.same b,by lia,by lia,λc g j k e f=>?_⟩;refine⟨Y,Y,Y,Y,Y,Y,Y,Y,Z,Z,l,i,Y,e,by lia,by lia,λe j k l g i=>⟨Z,j9,λt n=>?_⟩⟩;let a:=ao n (.tup [.str "quote",.int s,.int p,.int o,.int c,.int (c+e)]);exact v t (.WT s p o c (c+e)) _ af ⟨d,G,r,by lia,by lia,by lia⟩ trivial (g.same a) ((((m.trans (_gE.aJ.keep b)).trans (bO f)).trans (bO i)).trans (_gE.aJ.keep a))
 refine⟨Y,Z,Y,dO (λ_=>?_) (λ_=>?_)⟩
 ·refine⟨Y,Y,Y,D7,λt n=>?_⟩;let a:=ao n (.tup [.str "window",.int s,.int p,.int o]);exact v t (.win s p o) _ af ⟨d,G,r⟩ trivial (u.same a) (m.trans (_gE.aJ.keep a))
 ·refine⟨Y,mj,λt n=>?_⟩;let a:=ao n (.tup [.str "fix",.int s]);exact v t (.fix s) _ af d trivial (u.same a) (m.trans (_gE.aJ.keep a))
def LD.At.tup{H:Hp}{t:Addr}{a:LD}(h:a.At H t):∃ b,H t=⇑(.tup b)/\oU b 1=⇑(.int a.sh):=by
 cases a with
 | put=>exact⟨_,h.1,1⟩
 | _=>exact⟨_,h,1⟩
def LD.At.kept{H c:Hp}{t:Addr}{b:LD}(h:b.At H t)(d:∀ e a,H e=⇑(.tup a)->c e=⇑(.tup a))(g:∀ s p r f,b=.put s p r f->∀ a,H r=⇑(.lst a)->c r=⇑(.lst a)):b.At c t:=by
 cases b with
 | put s p r f =>
  let⟨i,j,k,l⟩:=h;exact⟨d _ _ i,j,g _ _ _ _ rfl _ k,l.tups d⟩
 | _=>exact d _ _ h
def Off(l:Addr)(U W c d:Y1)(H e:Hp):Prop:=∀ a b,H a=⇑b->¬ U a->¬ W a->a≠l->e a=⇑b/\¬ c a/\¬ d a
class inductive Hx(C CS CW CB:Addr)
 | mk (l h w x:Addr) (U W:Y1) (a:gT) (b:dD) (f:gS) (c:fY) (i:Nat × Kd) (j:Row) (_:vs=[↥l,↥w,↥x]) (_:oR C CS CW CB H l h w x U W a b a b f c i j) (_:1<=↑b) (_:↑a<=800) (_:↑f<=800) (_:↑c<=10000) (_:Good ↑c b) (_:∀ (k m:Y1) (d:gT) (e:dD) (n:gS) (g:Hp),oR C CS CW CB g l h w x k m d e d e n c i j->↑e=↑b->↑a<=d.length/\d.length<=↑a+1->↑n<=↑f+1->Good ↑c e->(∀ y∈d,y∈a\/y=e)->Off l U W k m H g->Q (.bl true) g)
def Hy(D:bS)(J5:aZ cX bf bV cW cV cQ 43 (dQ 112) (dR 112) ["b","a"] RP)(Hz:aZ cX bf bV cW cV cQ 45 (dQ 107) (dR 107) ["a","p"] Mh)(J6:aZ cX bf bV cW cV cQ 43 (dQ 106) (dR 106) ["d","e"] RI)(J7:aZ cX bf bV cW cV cQ 7 (dQ 109) (dR 109) ["f","p"] (RL eK cH cT dB)):aZ cX bf bV cW cV cQ 46 (dQ 113) (dR 113) ["b","a","f"] (Hx eK cH cT dB):=by
 specialize eZ ["b","a","f","p","d"] D.Wr.F;let⟨aq,ar,bf,av,ab,W,j,b,aA,f,o,aH,rfl,St,r1,b1,b2,b3,gd,ae⟩:=h;let hu:=gM hr;exists _,#v[aY 3 (aF D.Wq J5 hr #[0,1]),aY 4 (aF D.YB (yk D) hr #[fK hu (pv 1) bw,aR bh (pv 3) az,aF D.Wk Hz hr #[1,3]]),bN (iY (jq (aF D.Wj J6 hr #[4,aR bh (pv 3) az]))) #v[aK nG] bu,aT (aF D.Nm (lE D) hr #[1,4]),aK (OD (IG (aF D.Wl J7 hr #[2,3])))]
 rfl'
 let⟨d,g⟩:=gd.WS;let aS:=g.ln;refine⟨Y,Y,W,aq,ar,bf,f,j,b,d,1,St.src,St.wo,St.dw,g,r1,by lia,λt a H1 k p nw S1 v=>?_⟩;let l:=St.mv v S1;let⟨w,m,x,B,C⟩:=id l.wo;let zr:=gu.k (k:=kR) C.hw;rw[show cE (lK w m x B) kR=⇑↥m by kernel_rfl]at zr;let⟨_,_,_,xs,ag,al⟩:=id C.hr;let lv:=cP.len al;let⟨tv,ht,ai⟩:=k.tup;let is:=LD.Z0 p;let ak:=is.1;let aq:=is.2;let ss:((a.sh.toNat:Nat):Int)=a.sh:=by lia
 refine⟨Y,bf,Y,zr,Y,t,Q,V,dN.of ht,ai,Y,Y,W,bf,t,f,j,b,↑f,d,a,1,l.wo,k,g,p,by lia,λF H2 ho lo G I=>?_⟩;refine⟨m,F,a.sh.toNat,xs,by rw[ss];rfl,G _ _ ag,by lia,by lia,λq H3 hq J fq=>?_⟩;let L:=G.trans J;let M:=aU G fq;let G:=LD.Zm g p;let am:=RD (s:=a.sh.toNat) g.en G;let G:iM (λ_=>False) H3 q (b.set a.sh.toNat (a.res d b)):=⟨_,hq,cP.set _ (al.mono λi c ⟨r,e,Q,N⟩=>⟨r,e,λz=>z,L _ _ N⟩) ⟨F,1,λz=>z,J _ _ ho⟩⟩;let aw:↑(b.set a.sh.toNat (a.res d b))=↑b:=List.length_set
 refine⟨Y,Y,t,Q,V,dN.of (L _ _ ht),ai,_,q,_,a.sh,1,G,by lia,(λc e=>by
  rcases List.mem_or_eq_of_mem_set e with z|z
  ·have:=g.es c z;lia
  ·rw[z];exact lo),EH am,ak,by lia,RB ak g.sn.rk,λr H4 O N=>⟨r,1,?_⟩⟩
 let i:=L.trans O;let SD:=l.same i
 cases r with
 | false=>exact iK (ae ab W j b aA H4 SD rfl ⟨by lia,by lia⟩ ∅ gd (λ_ z=>.inl z) λc ob e u R S=>⟨i _ _ (v _ _ e S),u,R⟩)
 | true =>
  refine fT ?_;let⟨R5,f5,w5,m5⟩:=N rfl;let an:Good ↑f (b.set a.sh.toNat (a.res d b)):=⟨am,R5,by lia,f5,w5,m5⟩;let r:IB 1000 aH W H4 bf w m x B f j b:=C.fr (λc ob e _=>i _ _ e) λc xs e=>i _ _ e;have T:=l.new M;have U:=l.new I;let⟨l,rv⟩:=Wo.swap r (i _ _ ag) (O _ _ hq) (O _ _ (J _ _ ho)) T.2.1 U.2.1;refine⟨Y,Y,_,bf,q,f,j,b,b.set a.sh.toNat (a.res d b),1,⟨w,m,x,B,l⟩,by lia,λl m ⟨w,x,X⟩=>?_,λH5 ax SQ ap _=>?_⟩
  ·rw[r.hw]at X;simp only[Option.some.injEq,HO.dK.injEq,lK,List.cons.injEq,Prod.mk.injEq,V.ref.injEq,true_and,and_true]at X;let⟨rfl,rfl,rfl,rfl⟩:=X;exact rv
  let Vv:=SD.kept ax (λc z y=>by
   rcases y with y|y|y
   ·exact (St.du c z).1 y
   ·exact U.1 (by rw[← y];exact z)
   ·exact T.1 (by rw[← y];exact z)) (λc y=>by
   rcases y with y|y|y
   ·exact St.dw c y
   ·rw[y];exact U.2.2
   ·rw[y];exact T.2.2) SQ ap
  let ay:a.At H5 t:=(k.same i).kept ap λs w r x l B m=>by
   rw[l]at nw k;let u:=St.new (show H r=none from nw);let⟨_,l,n,_⟩:=k;refine SQ _ _ m λy=>?_;rcases y with y|y|y
   ·exact u.2.1 y
   ·rw[y,I]at n;cases n
   ·rw[y,M]at n;cases n
  refine⟨Y,Y,ab,av,t,j,aA,f,o,aH,b,d,a,1,Vv.Dp,Vv.lst,by lia,by lia,b3,ay,g,p,by rw[Hg _ ∅];exact an.bears,λU' H6 cI g f DQ=>?_⟩;let⟨HL,_⟩:=Vv.o0 f (k:=iW b a.sh.toNat (a.res d b)) (by simp) DQ;rw[Hg _ ∅]at HL;show Q (.bl (decide (V.gc=V.gc))) H6;rw[decide_eq_true rfl]
  exact ae U' _ _ _ cI H6 HL aw (by rw[cY];exact⟨Nat.le_add_right ..,fF _⟩) ∅ an (λ_ z=>(List.mem_append.mp z).imp id List.mem_singleton.mp) λc ob e u R S=>by
   let n:=v _ _ e S
   let o:¬ (W c\/c=F\/c=q):=λy=>by
    rcases y with y|y|y
    ·exact R y
    ·rw[y,I]at n;cases n
    ·rw[y,M]at n;cases n
   let a:=SQ _ _ (i _ _ n) o;exact⟨DQ.2.1 _ _ a u,(λy=>(DQ.1 c y).elim u (λz=>by rw[a]at z;cases z)),o⟩
def Vw{f b:Hp}{t:Addr}{h:Int}{g:List Nat}{i d:Nat}{c:WF}(l:f a=none)(m:g[i]?=⇑d)(k:b a=⇑(.lst (c.map V.ref)))(n:Paired (G9 b) c (nP h (g.take i)))(o:aJ f b)(j:b t=none):(aO (aO b t (.tup [.int h,rY d])) a (.lst (c.map V.ref++[↥t]))) a=⇑(.lst ((c++[t]).map V.ref))/\Paired (G9 (aO (aO b t (.tup [.int h,rY d])) a (.lst (c.map V.ref++[↥t])))) (c++[t]) (nP h (g.take (i+1)))/\aJ f (aO (aO b t (.tup [.int h,rY d])) a (.lst (c.map V.ref++[↥t]))):=by
 refine⟨?_,?_,λp q e=>?_⟩
 ·rw[af,gm];rfl
 ·let p:t≠a:=(aB k j).symm;rw[take_snoc m];unfold nP;rw[gm];refine EA (Paired.Dv n λq r e=>?_) ?_
  ·show aO _ a _ q=_;rw[aN (cS e k)];exact ao j _ _ _ e
  ·show aO _ a _ t=_;rw[aN p];exact af
 ·rw[aN (aB e l)];exact ao j _ _ _ (o _ _ e)
class inductive Dt(C CS CW CB:Addr)
 | mk (l i w x:Addr) (U W:Y1) (c:gT) (a:dD) (d:gT) (e:dD) (f:gS) (g:fY) (b:Nat × Kd) (j:Row) (_:vs=[↥l,↥w,↥x]) (_:oR C CS CW CB H l i w x U W c a d e f g b j) (_:↑c<=800) (_:↑d<=800) (_:↑a<=50) (_:↑f<=800) (_:↑g<=50000) (_:b.1<=800) (_ :
 ∀ (k:Y1) (h:Hp) (m:Int) (n:List Nat) (o:gS),jS m->↑n<=60->↑o=↑f+1->oR C CS CW CB h l i w x k W (c++[a]) a (d++[e]) e o (g++nP m n) (b.1+1,b.2) j->ID l U W k W H h->Q (.bl true) h)
def wn:TS:=λD a H=>∃ (l c:Addr) (d e f g h:Option V) (i:Int),a=[⇑↥l,d,e,f,g,⇑(.int i),h]/\dM H l c/\jS i/\∀ (j:Int) (a:Hp),jS j->dM a l c->(∀ b,b≠l->a b=H b)->D.nx [⇑↥l,d,e,f,g,⇑(.int j),h] a
theorem yl:‹(5,114,["b","a","f"],(Dt eK cH cT dB))›:=λD=>by
 let J:aZ cX bf bV cW cV cQ 1 _ _ ["b","I"] uf:=fN D;specialize eZ ["b","a","f","M","_law_text_here","F","x"] D.Qp.F;let⟨l,g,bf,am,ay,W,pe,aS,pq,U,aA,L,nW,aH,rfl,St,b1,a6,b2,b3,b4,b5,X⟩:=h;let hu:=gM hr;refine⟨_,#v[aY 3 (aR bK (bM #[az,az,az,az,az]) (aF D.uM J hr #[0,az])),aY 4 (aF D.og (G8 D) hr #[0,aF D.uM J hr #[0,bG dY (pv 3) az]]),aY 5 (aF D.uM J hr #[0,az]),wB (c:=wn) (bN (aV eV (aF D.uM J hr #[0,az]) az (bz _)) #v[aY 5 (aF D.uM J hr #[0,bG IQ az az])] bu) ?b3,aY 6 (fR D.T.fE (fK hu (pv 1) bw)),aT (dZ oS PySem.F.slot_list_extend PySem.F.type_list_extend jC (fK hu (pv 1) bw) #[gO (N:=["_law_sign_here","F"]) (jJ (c:=b9 ua) (f:=["b","a","f","M","_law_text_here","F","x"]) (d:=[none,some 5]) rfl rfl rfl nofun nofun rfl nofun rfl nofun) rfl (Yd (pv 4)) (λ_ _ _ _ _ _=>(bW 0)) (λ_ _ _ _ _ _=>gU) (λ_ _ _ _ _ _=>(c9 #[1,0]))]),aT (aF D.Nm (lE D) hr #[1,fK hu (pv 1) bw]),aK (aF D.Um (jD D 2) hr #[cL (pv 2) D.aM D.Yx (yD D) hr bH #[5,4],c9 #[6,bG dY (pv 6) (cA uS rfl D.T.fE PySem.boot_len #[4])]])],?_⟩
 rfl'
 case b3 =>
  rintro D σ H ⟨l,g,s1,b,i,j,k,h,rfl,S,fh,X⟩;refine⟨Y,l,g,4,1,S,by decide,by decide,λan H1 i j b c=>⟨1,Y,dO (λ_=>?_) (λ_=>X h H1 fh b c)⟩⟩;refine⟨Y,Z,⟨by decide,by decide,by decide⟩,l,g,Y,b,by decide,by decide,λe H2 f d S2 M=>?_⟩;rw[show (10:Int)^(59:Int).toNat=10^59 from rfl]at d;exact X e H2 ⟨f,Int.lt_trans d (by decide)⟩ S2 λy a=>(M y a).trans (c y a)
 refine⟨Ye,λC N=>?_⟩;let s1:=ao N (.lst [.int 1,.int 3,.int 5,.int 8,.int 60]);let h1:(aO H C (.lst [.int 1,.int 3,.int 5,.int 8,.int 60])) C=⇑(.lst [.int 1,.int 3,.int 5,.int 8,.int 60]):=af;let nt:=St.src.ne N;generalize aO H C (.lst [.int 1,.int 3,.int 5,.int 8,.int 60])=H1 at s1 h1;let J:=St.same s1;refine⟨Y,l,g,5,1,J.src,by decide,by decide,λi H2 i0 i1 S2 M=>?_⟩;let J8:=J.mv (bO M) S2;let⟨z,hz,ez⟩:=Hf (a:=[V.int 1,.int 3,.int 5,.int 8,.int 60]) i0 (by show i<5;lia)
 obtain⟨tn,rfl,Ou,ZQ⟩:∃ p:Int,z=.int p/\0<=p/\p<=60:=by
  let b:∀ y∈[V.int 1,.int 3,.int 5,.int 8,.int 60],∃ p:Int,y=.int p/\0<=p/\p<=60:=by
   intro y a;rcases List.mem_cons.mp a with q|a
   ·exact⟨(1),q,by decide,by decide⟩
   rcases List.mem_cons.mp a with q|a
   ·exact⟨3,q,by decide,by decide⟩
   rcases List.mem_cons.mp a with q|a
   ·exact⟨5,q,by decide,by decide⟩
   rcases List.mem_cons.mp a with q|a
   ·exact⟨8,q,by decide,by decide⟩
   ·exact⟨60,List.mem_singleton.mp a,by decide,by decide⟩
  exact b z hz
 exists C,Q,V,bJ.of ((M C nt.1.symm).trans h1),ez;refine⟨Y,Y,Y,Z,l,g,Y,S2,by lia,by lia,λJ H3 m0 m1 S3 k3=>?_⟩;let Mi:=J8.mv (bO k3) S3;refine⟨l,g,J.toNat,by rw[show ((J.toNat:Nat):Int)=J by lia];rfl,S3,by lia,λt H4 Sn J K4=>?_⟩;let SD:=Mi.mv K4 J;refine⟨Y,l,g,3,1,J,by decide,by decide,λh0 H5 p0 p1 J k5=>?_⟩;let Vv:=SD.mv (bO k5) J;refine⟨l,g,Q,E,h0,1,J,⟨p0,by lia⟩,λh H6 fh S6 J=>?_⟩;let f:=Vv.mv (bO J) S6;let ap:cD l H H6:=((((((_gE.aJ.keep s1).trans (bO M)).trans (bO k3)).trans K4).trans (bO k5)).trans (bO J));let⟨c,rw,G,O,b⟩:=id f.wo;let⟨F,R,pa⟩:=id b.hi;let la:=Paired.length pa;let J:=gu.k (k:=kI) b.hw;rw[show cE (lK c rw G O) kI=⇑↥c by kernel_rfl]at J;exists Y,bf,Y,J,c,Y,.inl (bJ.of R);refine⟨Y,bf,Y,J,.inl ⟨1,_,bJ.of R⟩,Y,t,1,λaq cO=>Nh (λp σ r=>∃ (ab:Option V) (s:WF),σ=[ab,⇑(.int h)]/\r aq=⇑(.lst (s.map V.ref))/\Paired (G9 r) s (nP h (t.take p))/\aJ H6 r) ⟨none,[],1,af,.nil,ao cO _⟩ ?_ ?_⟩
 ·rintro p d σ r a ⟨ab,s,rfl,ha,I,s7⟩;let lb:=Paired.length I;rw[mz,gI]at lb;refine⟨Y,Y,mj,λC N=>⟨_,ao N _ _ _ ha,(by rw[b8];exact aQ ∅),_,s++[C],1,Vw cO a ha I s7 N⟩⟩
 rintro σ r ⟨ab,s,rfl,ha,I,s7⟩;rw[gQ]at I;let lb:=Paired.length I;rw[mz]at lb;let ar:=s7 _ _ R;refine⟨c,aq,Z,ar,ha,(by rw[b8,b8];exact gV (aQ ∅)),?_⟩;rw[← gm];let k8:cD c r (aO r c (.lst ((F++s).map V.ref))):=aI c _ _;let i8:(aO r c (.lst ((F++s).map V.ref))) c=⇑(.lst ((F++s).map V.ref)):=af;generalize aO r c (.lst ((F++s).map V.ref))=p at k8 i8;let k:∀ a d,H6 a=⇑d->a≠c->p a=⇑d:=λa d e n=>k8 _ _ (s7 _ _ e) n;have ag:∀ a j,H6 a=⇑(.tup j)->p a=⇑(.tup j):=λa j e=>k _ _ e (cS e R);have C:∀ a j,r a=⇑(.tup j)->p a=⇑(.tup j):=λa j e=>k8 _ _ e (cS e ar);have r:p bf=⇑(.dK (lK c rw G O)):=k _ _ b.hw (cS b.hw R);have av:Ov W c G p rw U:=b.hr.fr (λ_ z=>z) λa j e _ n _=>k _ _ e n
 let J:IB 1000 aH W p bf c rw G O (L++nP h t) pq U:=by
  let⟨o,u,v⟩:=b.hp;refine⟨b.ww,b.wi,b.wp,b.wv,λa z=>?_,r,⟨F++s,i8,BH (Paired.Dv pa λa q e=>ag _ _ e) (Paired.Dv I λa q e=>C _ _ e)⟩,av,⟨o,k _ _ u b.ne.symm,v.mono λan o ⟨a,e,q⟩=>⟨a,e,q.fr (λ_ y=>y) λa j e _ n _=>k _ _ e n⟩⟩,b.ne,b.lst,b.hv.imp λ_ z=>⟨k _ _ z.1 b.nv.1,z.2⟩,b.nv⟩;by_cases e:a=c
  ·rw[e];exact⟨_,i8⟩
  ·let⟨d,m⟩:=b.al a z;exact⟨d,k _ _ m e⟩
 let a0:=f.Dp.fr (λa d e z=>k _ _ e (λq=>(f.du a z).1 (by rw[q];exact b.wi))) ag
 let a1:dM p l g:=by
  let⟨n,u,i,v,w,o,m,y⟩:=S6;exact⟨n,u,i,v,w,k _ _ o (λq=>(f.dw c b.wi).1 q.symm),k _ _ m (λq=>(f.dw c b.wi).2 q.symm),y⟩
 let p:=gu.k (k:=kR) r;rw[show cE (lK c rw G O) kR=⇑↥rw by kernel_rfl]at p;refine⟨Y,Y,bf,Y,p,W,bf,rw,L++nP h t,pq,U,U,1,⟨c,rw,G,O,J⟩,by lia,λc p ⟨s,C,e⟩=>?_,λH9 ai ae aw _=>?_⟩
 ·rw[r]at e;simp only[Option.some.injEq,HO.dK.injEq,lK,List.cons.injEq,Prod.mk.injEq,V.ref.injEq,true_and,and_true]at e;let⟨rfl,rfl,rfl,rfl⟩:=e;exact av
 let ax:=a0.fr (λa d e z=>ae _ _ e (f.du a z).1) aw
 let Vx:dM H9 l g:=by
  let⟨n,u,i,v,w,o,m,y⟩:=a1;exact⟨n,u,i,v,w,ae _ _ o (λq=>(f.dw l q).1 rfl),ae _ _ m (λq=>(f.dw g q).2 rfl),y⟩
 let⟨r,s,c,C,G,I,J,M,N,O,R,U,ZU,ZV,ZW,ZX,aq,ar,BG,p⟩:=id ax;refine⟨Y,am,c,Y,p.L.hx,1,Y,Y,ay,am,pe,aA,L,nW,aH,h,t,aS,1,ax,fh,by lia,by lia,by lia,f.lst,b2,by lia,by lia,λU' q LA a2 x c=>?_⟩;refine⟨Y,Y,Y,gi t,1,(by rw[pD];exact gV (aQ ∅)),Z,mj,λp Js=>?_⟩;refine⟨E,1,.inr ⟨false,q,p,Z,ao Js _ _ _ c,af,1,λi ab an S T=>?_⟩,λak a3=>?_⟩
 ·match i,S,T with
  | 0,S,T =>
   cases S;cases T;rw[show ↑(F.map V.ref)=↑L by rw[b8,la]];exact Eqv.int _
  | 1,S,T =>
   cases S;cases T;rw[show (↑(L++nP h t):Int)=(↑(F.map V.ref):Int)+(↑(gi t):Int) by rw[b8,la,pD,cY,mz];lia];exact Eqv.int _
 let B:aJ LA ak:=λa d e=>a3 _ _ (ao Js _ _ _ e);have Y3:∀ a d,H a=⇑d->a≠l->¬ W a->H9 a=⇑d:=λa d e n z=>ae _ _ (k _ _ (ap _ _ e n) (λq=>z (by rw[q];exact b.wi))) z
 let a4:∀ a,H9 a=none->H a=none:=by
  intro a e
  cases y:H a with
  | none=>rfl
  | some d =>
   exfalso;by_cases n:a=l
   ·let⟨_,u,i,v,w,o,_⟩:=Vx;rw[n,o]at e;cases e
   by_cases z:W a
   ·let⟨d,m⟩:=ai.al z;rw[m]at e;cases e
   rw[Y3 _ _ y n z]at e;cases e
 let a5:dM ak l g:=by
  let⟨n,u,i,v,w,o,m,y⟩:=Vx;exact⟨n,u,i,v,w,B _ _ (x.2.1 _ _ o (λq=>(f.du l q).2.1 rfl)),B _ _ (x.2.1 _ _ m (λq=>(f.du g q).2.2 rfl)),y⟩
 refine X U' ak h t _ fh ∅ (by rw[cY];rfl) ⟨a5,a2.fr (λa d e _=>B _ _ e) (λa j e=>B _ _ e),(by simp),ai.fr (λa d e z=>B _ _ (x.2.1 _ _ e (λy=>(f.du a y).1 z))) (λa j e=>B _ _ (x.2.2 _ _ e)),λa z=>?_,f.dw⟩ ⟨λa z=>z.elim (λz=>(x.1 a z).elim .inl λy=>.inr (.inr (a4 a y))) (λz=>.inr (.inl z)),λa d e n y z=>B _ _ (x.2.1 _ _ (Y3 _ _ e n z) y),λa j e=>?_⟩
 ·rcases x.1 a z with y|y
  ·exact f.du a y
  ·refine⟨λz=>?_,λq=>?_,λq=>?_⟩
   ·let⟨d,m⟩:=ai.al z;rw[m]at y;cases y
   ·let⟨_,u,i,v,w,o,_⟩:=Vx;rw[q,o]at y;cases y
   ·let⟨_,u,i,v,w,_,o,_⟩:=Vx;rw[q,o]at y;cases y
 ·let⟨b,a⟩:=St.src.lst;exact B _ _ (x.2.2 _ _ (aw _ _ (ag _ _ (ap _ _ e (cS e a)))))
class inductive J9(C CS CW CB:Addr)
 | mk (l g w x:Addr) (U W:Y1) (c:gT) (a:dD) (d:gT) (b:dD) (e:gS) (h:fY) (i:Nat × Kd) (j:Row) (_:vs=[↥w,↥x]) (_:oR C CS CW CB H l g w x U W c a d b e h i j) (_:↑c<=800) (_:↑d<=800) (_:↑a<40) (_:↑b=↑a) (_:↑e<=800) (_:(∃ o,nB (a++[[]]) o)) (_ :
 ∀ (k m:Y1) (f:Hp) (n:gS),↑n=↑e+1->oR C CS CW CB f l g w x k m (c++[a++[[]]]) (a++[[]]) (d++[b++[[]]]) (b++[[]]) n h i j->ID l U W k m H f->Q (.bl true) f)
theorem EJ:‹(8,115,["a","f"],(J9 eK cH cT dB))›:=λD=>by
 specialize eZ ["a","f"] D.Ws.F;let⟨w,x,bf,ab,ae,W,pe,ak,I,B,aA,J,nW,aH,rfl,St,b1,a0,b2,a1,b3,am,an⟩:=h;let hu:=gM hr;exists _,#v[aT (aF D.Nm (lE D) hr #[0,bG iZ (fK hu (pv 0) bw) (bM #[bM ah])]),aK (aF D.Um (jD D 1) hr #[fD (pv 1) D.aM D.Yv (xu D) hr bH,bG dH (fR D.T.fE (fK hu (pv 0) bw)) az])]
 rfl'
 let⟨C,rw,F,G,l⟩:=id St.wo;let zr:=gu.k (k:=kR) l.hw;rw[show cE (lK C rw F G) kR=⇑↥rw by kernel_rfl]at zr;exists Y,Y,bf,Y,zr;let⟨a0,n1,n2,vs,ap,al⟩:=id l.hr;let lv:=cP.len al;refine⟨iz,λe i=>⟨mh,λo ho=>?_⟩⟩;let s1:=ao i (.lst []);let d:(aO H e (.lst [])) e=⇑(.lst []):=af;generalize aO H e (.lst [])=L at s1 d ho;let M:=ao ho (.lst [↥e]);let o2:(aO L o (.lst [↥e])) o=⇑(.lst [↥e]):=af;show im _ _ (aO L o (.lst [↥e])) _;generalize aO L o (.lst [↥e])=H2 at M o2;let N:=s1.trans M;refine⟨rw,o,Z,N _ _ ap,o2,(by rw[lv];exact gV (aQ (by simp only[kH,oq];lia))),λr LR=>?_⟩;let O:=ao LR (.lst (vs++[↥e]));let R:(aO H2 r (.lst (vs++[↥e]))) r=⇑(.lst (vs++[↥e])):=af;generalize aO H2 r (.lst (vs++[↥e]))=o at O R;let m:=N.trans O;let p:=aU N LR;let⟨L,yj,_⟩:=id l.hi;let⟨L,Mc,_⟩:=id l.hp;let e3:=O _ _ (M _ _ d);let S:IB 1000 aH W o bf C rw F G J I B:=l.fr (λa b e _=>m _ _ e) (λa j e=>m _ _ e)
 let ZY:IB 1000 aH (λa=>W a\/a=e\/a=r) o bf C rw F G J I B:=oR.WO S (λa z=>.inl z) (by
  rintro a (z|z|z)
  ·exact S.al a z
  ·rw[z];exact⟨_,e3⟩
  ·rw[z];exact⟨_,R⟩)
 let Zj:∀ a b,H a=⇑b->¬ W a->¬ (W a\/a=e\/a=r):=by
  rintro a b c n (z|z|z)
  ·exact n z
  ·rw[z,i]at c;cases c
  ·rw[z,p]at c;cases c
 refine⟨λa=>W a\/a=e\/a=r,bf,r,J,I,B,B++[[]],1,⟨C,rw,F,G,ZY⟩,by lia,λl o ⟨B,C,T⟩=>?_,λs U aq ar _=>?_⟩
 ·rw[S.hw]at T;simp only[Option.some.injEq,HO.dK.injEq,lK,List.cons.injEq,Prod.mk.injEq,V.ref.injEq,true_and,and_true]at T;let⟨rfl,rfl,rfl,rfl⟩:=T;exact⟨.inr (.inr rfl),(aB yj p).symm,(aB Mc p).symm,_,R,cP.snoc (al.mono λ_ _=>WN.fr (λa z=>.inl z) (λa j e _ _ _=>m _ _ e)) ⟨e,1,.inr (.inl rfl),(aB yj i).symm,(aB Mc i).symm,e3⟩⟩
 let t:∀ a b,H a=⇑b->¬ W a->s a=⇑b:=λa b e n=>aq _ _ (m _ _ e) (Zj _ _ e n);have ag:∀ a j,H a=⇑(.tup j)->s a=⇑(.tup j):=λa j e=>ar _ _ (m _ _ e);have av:=St.Dp.fr (λa b e z=>t _ _ e (St.du a z).1) ag
 let X:dM s w x:=by
  let⟨n,c,u,v,r,d,g,h3⟩:=St.src;exact⟨n,c,u,v,r,t _ _ d (λq=>(St.dw w q).1 rfl),t _ _ g (λq=>(St.dw x q).2 rfl),h3⟩
 let uw:∀ a,ae a->¬ (W a\/a=e\/a=r):=λa z=>by
  let⟨b,c⟩:=St.Dp.al z;exact Zj _ _ c (St.du a z).1
 let⟨o,R,m,B,C,F,G,I,J,L,M,N,S,T,ZW,ZX,ap,aq,O,l⟩:=id av;refine⟨Y,ab,m,Y,l.L.hx,1,o,ab,m,B,C,F,G,I,J,L,M,N,pe,O,aA,ak,1,l.L,St.lst,by lia,by lia,by lia,by lia,⟨am,λB C m o=>?_⟩⟩;let⟨U',aw,f⟩:=l.vV m o;let ai:=U.fr (λa b e z=>f.2.1 _ _ e (λy=>uw a y z)) f.2.2;let⟨C,l,F,G,m⟩:=id ai;let⟨_,_,_,o,I,B⟩:=id m.hr;let o:=cP.len B;rw[cY]at o;let B:=gu.k (k:=kR) m.hw;rw[show cE (lK C l F G) kR=⇑↥l by kernel_rfl]at B;refine⟨Y,bf,Y,B,l,Y,.inl (bJ.of I),Z,E,1,.inl ⟨1,?_⟩,λH6 k=>?_⟩
 ·rw[o];simp only[kH,oq];congr 1;lia
 let ax:∀ a b,H a=⇑b->¬ ae a->¬ W a->H6 a=⇑b:=λa b e y z=>k _ _ (f.2.1 _ _ (t _ _ e z) y)
 let ay:dM H6 w x:=by
  let⟨n,c,u,v,r,d,g,h3⟩:=X;exact⟨n,c,u,v,r,k _ _ (f.2.1 _ _ d (λq=>(St.du w q).2.1 rfl)),k _ _ (f.2.1 _ _ g (λq=>(St.du x q).2.2 rfl)),h3⟩
 let aS:∀ a,s a=none->H a=none:=by
  intro a c
  cases q:H a with
  | none=>rfl
  | some b =>
   exfalso;by_cases z:W a
   ·let⟨b,g⟩:=U.al (a:=a) (.inl z);rw[g]at c;cases c
   rw[t _ _ q z]at c;cases c
 refine an U' (λa=>W a\/a=e\/a=r) H6 _ (by rw[cY];rfl) ⟨ay,aw.same k,by simp,ai.same k,λa z=>?_,λa z=>?_⟩ ⟨λa z=>z.elim (λz=>(f.1 a z).elim .inl λy=>.inr (.inr (aS a y))) (λz=>?_),λa b e n y z=>ax _ _ e y z,λa j e=>k _ _ (f.2.2 _ _ (ag _ _ e))⟩
 ·rcases f.1 a z with y|y
  ·exact⟨uw a y,(St.du a y).2⟩
  ·change s a=none at y;refine⟨λz=>?_,λq=>?_,λq=>?_⟩
   ·let⟨b,g⟩:=U.al z;rw[g]at y;cases y
   ·let⟨_,c,u,v,r,d,_⟩:=X;rw[q,d]at y;cases y
   ·let⟨_,c,u,v,r,_,d,_⟩:=X;rw[q,d]at y;cases y
 ·let c:=St.src.ne i;let g:=St.src.ne p;rcases z with z|z|z
  ·exact St.dw a z
  ·rw[z];exact⟨c.1.symm,c.2.symm⟩
  ·rw[z];exact⟨g.1.symm,g.2.symm⟩
 ·rcases z with z|z|z
  ·exact .inr (.inl z)
  ·rw[z];exact .inr (.inr i)
  ·rw[z];exact .inr (.inr p)
abbrev e0(n:Nat):dD:=List.replicate n []
theorem Mj(n:Nat):e0 n++[[]]=e0 (n+1):=(List.replicate_succ').symm
theorem xC{n:Nat}{a:Wp}(h:a∈e0 n):a=[]:=(List.mem_replicate.mp h).2
theorem Zp{n:Nat}{x y:Int}:¬ jX (e0 n) x y:=λ⟨_,c,b,a⟩=>by
 rw[xC (mC b)]at a;cases a
theorem RT(n:Nat):gZ (e0 n):=λc b y a=>by
 rw[xC b]at a;cases a
theorem RU(n:Nat):DU (e0 n):=⟨λ_=>0,λ_=>mR _,λ_ _ z=>absurd z Zp⟩
def RV{n:Nat}(h:n<=100):nB (e0 n) λ_=>0:=by
 refine⟨by rw[yq];exact h,λb a=>by rw[xC a];exact mR _,RT n,RU n,λx b _ a=>?_,λ_ _ _=>by decide⟩;rw[xC (mC a)];rfl
def hG(a:fY)(b:Row)(c:Wp):Prop:=∀ y:Int,0<=y->y<(↑a:Nat)->y∉c->0<=y-1/\qX a y=qX a (y-1)/\(In b y↔In b (y-1))
inductive qp(aC:fY)(aH:Row)(n:Nat):Prop
 | mk (a b:Wp) (_:↑a<=n) (_:↑b<=n) (_:hG aC aH a) (_:∀ p∈aC,p.1∈b):qp aC aH n
theorem qp.nil:qp [] [] 0:=⟨[],[],fF _,fF _,(λy b a _=>by rw[oq]at a;lia),λ_ z=>by cases z⟩
def qp.more{a:fY}{b:Row}{n m:Nat}(h:qp a b n)(l:n<=m):qp a b m:=by
 let⟨c,d,g,i,e,f⟩:=h;exact⟨c,d,by lia,by lia,e,f⟩
def qp.xg{a:fY}{e:Row}{n:Nat}{h:Int}{b:List Nat}(x:qp a e n)(f:∀ y,In e y->0<=y/\y<(↑a:Nat)):qp (a++nP h b) e (n+1):=by
 let⟨j,k,l,m,o,p⟩:=x
 let g:∀ y:Int,0<=y->y<(↑a:Nat)->qX (a++nP h b) y=qX a y:=λy c d=>by
  unfold qX;rw[List.getElem?_append_left ∅]
 let i:∀ y:Int,(↑a:Nat)<=y->y<(↑(a++nP h b):Nat)->qX (a++nP h b) y=h:=λy c d=>by
  rw[cY,mz]at d;unfold qX;rw[List.getElem?_append_right ∅,nT (by rw[mz];lia)];unfold nP;rw[List.getElem_map];rfl
 refine⟨j++[(↑a:Int)],k++[h],by rw[cY];exact Nat.add_le_add_right l 1,by rw[cY];exact Nat.add_le_add_right m 1,λy c d n=>?_,λq r=>?_⟩
 ·rw[List.mem_append,List.mem_singleton,not_or]at n;by_cases j:y<(↑a:Nat)
  ·let⟨k,l,m⟩:=o y c j n.1;exact⟨k,by rw[g _ c j,g _ k ∅,l],m⟩
  ·let c:=n.2;exact⟨by lia,by rw[i _ ∅ d,i _ ∅ ∅],⟨λz=>by have:=(f _ z).2;lia,λz=>by have:=(f _ z).2;lia⟩⟩
 ·rcases List.mem_append.mp r with z|z
  ·exact nC _ (p q z)
  ·let⟨_,_,rfl⟩:=List.mem_map.mp z;exact mP _ (List.mem_singleton.mpr rfl)
def yH(n:Nat):gT:=[[],[],[]]++(List.range n).map λk=>e0 (k+1)
def N5(n:Nat):yH (n+1)=yH n++[e0 (n+1)]:=by
 unfold yH;rw[List.range_succ,gm,j4];rfl
def A6(n:Nat):↑(yH n)=n+3:=by
 unfold yH;rw[cY,b8,List.length_range];show 3+n=_;lia
class inductive A7(C CS CW CB:Addr)
 | mk (l c w x:Addr) (d:Kd) (U W:Y1) (_:vs=[↥l,↥w,↥x]) (_:oR C CS CW CB H l c w x U W [[]] [] [[]] [] [] [] (0,d) []) (_ :
 ∀ (e f:Y1) (b:Hp) (n:Nat) (a:fY) (g:gS),2<=n->n<=4->↑a<=120->((∀ p∈a,jS p.1)/\qp a [] 2)->↑g=n+2->oR C CS CW CB b l c w x e f (yH n) (e0 n) (yH n) (e0 n) g a (2,d) []->ID l U W e f H b->Q (.bl true) b)
theorem EK:‹(9,116,["b","a","f"],(A7 eK cH cT dB))›:=λD=>by
 specialize eZ ["b","a","f","_law_good","_law_k"] D.Wu.F;let⟨l,i,bf,x,p,U,W,rfl,St,O⟩:=h;let hu:=gM hr;exists _,#v[aY 3 nG,eO PassesOwn.never rfl (jA rfl D.T.jO #[az]) (bW 4) #v[aY 3 (oX (aF D.Qp (yl D) hr #[0,1,2]) (qA (pv 3)))],eO PassesOwn.never rfl (jA rfl D.T.jO #[bG dY az (aF D.uM (fN D) hr #[0,az])]) (bW 4) #v[aY 3 (oX (aF D.Ws (EJ D) hr #[1,2]) (qA (pv 3)))],aK (pv 3)]
 rfl'
 let R:ID l U W U W H H:=⟨λt z=>z.elim .inl λF=>.inr (.inl F),λt S f _ _ _=>f,λ_ _ f=>f⟩;refine⟨2,1,by decide,by decide,?_⟩;refine oz (lo:=0) (n:=(2:Int).toNat) (λj k u=>∃ (b:Option V) (m g:Y1) (c:fY) (a:gS),k=[⇑↥l,⇑↥bf,⇑↥x,⇑(.bl true),b]/\oR eK cH cT dB u l i bf x m g (List.replicate (j+1) []) [] (List.replicate (j+1) []) [] a c (j,p) []/\↑c<=60*j/\((∀ o∈c,jS o.1)/\qp c [] j)/\↑a=j/\ID l U W m g H u) ⟨none,U,W,[],[],1,St,fF _,⟨(λ_ z=>by cases z),qp.nil⟩,1,R⟩ ?_ ?_
 ·rintro j k u N ⟨b,m,g,c,a,rfl,n,T,v,q,w⟩;let X:j<2:=N;refine⟨Y,Y,Y,l,i,bf,x,m,g,Q,_,a,c,(j,p),[],1,n,(by rw[yq];lia),(by rw[yq];lia),(by show 0<=50;decide),by lia,by lia,by lia,λC y h s L M R yt B G=>?_⟩;rw[← List.replicate_succ']at B;let I:∃ (b:Option V) (d e:Y1) (s:fY) (r:gS),[⇑↥l,⇑↥bf,⇑↥x,⇑(.bl true),⇑(V.int (0+(j:Int)))]=[⇑↥l,⇑↥bf,⇑↥x,⇑(V.bl true),b]/\oR eK cH cT dB y l i bf x d e (List.replicate (j+1+1) []) [] (List.replicate (j+1+1) []) [] r s (j+1,p) []/\s.length<=60*(j+1)/\((∀ o∈s,jS o.1)/\qp s [] (j+1))/\↑r=j+1/\ID l U W d e H y:=⟨_,C,g,_,L,1,B,(by rw[cY,mz];lia),⟨(λo s=>(List.mem_append.mp s).elim (v.1 o) λz=>by let⟨_,_,rfl⟩:=List.mem_map.mp z;exact M),v.2.xg λ_ ⟨_,z,_⟩=>by cases z⟩,by lia,w.trans (by let⟨J,o⟩:=n.src.lst;exact⟨_,o⟩) G⟩;exists true,1;rw[if_pos rfl];exact⟨Y,I⟩
 rintro k u ⟨b,m,g,c,a,rfl,n,T,v,q,w⟩;refine⟨Y,l,i,3,1,n.src,by decide,by decide,λL y T v1 R u=>⟨Z,2+L,1,by lia,by lia,?_⟩⟩;let B:=n.mv (bO u) R
 let G:ID l U W m g H y:=w.trans (by let⟨J,o⟩:=n.src.lst;exact⟨_,o⟩) ⟨λt z=>z.elim .inl λF=>.inr (.inl F),λt S f y _ _=>(bO u) _ _ f y,λt t f=>by
  let⟨J,o⟩:=n.src.lst
  exact (bO u) _ _ f (cS f o)⟩
 clear w;refine oz (lo:=0) (n:=(2+L).toNat) (λj k s=>∃ (b:Option V) (d e:Y1) (a:gS),k=[⇑↥l,⇑↥bf,⇑↥x,⇑(.bl true),b]/\oR eK cH cT dB s l i bf x d e (yH j) (e0 j) (yH j) (e0 j) a c (2,p) []/\↑a=j+2/\ID l U W d e H s) ⟨b,m,g,a,1,B,q,G⟩ ?_ ?_
 ·rintro j k s N ⟨b,d,e,a,rfl,C,q,M⟩;let X:j<4:=by lia
  refine⟨Y,Y,l,i,bf,x,d,e,Q,_,a,c,(2,p),[],1,C,(by rw[A6];lia),(by rw[A6];lia),(by rw[yq];lia),1,by lia,⟨_,by rw[Mj];exact RV ∅⟩,λt u f w m g y=>?_⟩;rw[Mj,← N5]at g;let I:∃ (b:Option V) (m n:Y1) (r:gS),[⇑↥l,⇑↥bf,⇑↥x,⇑(.bl true),⇑(V.int (0+(j:Int)))]=[⇑↥l,⇑↥bf,⇑↥x,⇑(V.bl true),b]/\oR eK cH cT dB f l i bf x m n (yH (j+1)) (e0 (j+1)) (yH (j+1)) (e0 (j+1)) r c (2,p) []/\↑r=j+1+2/\ID l U W m n H f:=⟨_,t,u,w,1,g,by lia,M.trans (by let⟨J,o⟩:=C.src.lst;exact⟨_,o⟩) y⟩;exists true,1;rw[if_pos rfl];exact⟨Y,I⟩
 rintro k s ⟨b,d,e,a,rfl,C,q,M⟩;exact⟨Y,O d e s (2+L).toNat c a ∅ ∅ (by have:(2:Int).toNat=2:=rfl;lia) v q C M⟩
def Vy(b:fY)(c:Wp)(a:Int):Nat:=if a∈c then 35 else ((b[a.toNat]?).map Prod.snd).getD 0
def Ml{d:fY}{e:Wp}{b:Row}(h:∀ y,y∈e↔In b y)(a:Int):Vy d e a=qo d b 35 a:=by
 unfold Vy qo;by_cases c:In b a
 ·rw[if_pos ((h a).mpr c),if_pos (jM.mpr c)]
 ·rw[if_neg λz=>c ((h a).mp z),if_neg λz=>c (jM.mp z)]
class inductive HN
 | mk (W:Y1) (w o:Addr) (c:fY) (f:gT) (g:dD) (d:Row) (b:Wp) (_:vs=[↥w,↥o]) (_:Wo 1000 d W H w c f g) (_:H o=⇑(.lst (b.map V.int))) (_:↑b<=1000) (_:∀ a∈b,0<=a/\a<(↑c:Nat)) (_:∀ e,aJ H e->Q (.str (gi (b.map (qo c d 35)))) e)
theorem HP:‹(1,117,["a","k"],HN)›:=λD=>by
 specialize eZ ["a","k","_law_signs","_law_number"] D.Wv.F;let⟨W,bf,o,e,X,ab,f,g,rfl,M,s,ln,N,O⟩:=h;let v:=gM hr;exists _,#v[aY 2 (bM ah),eO PassesOwn.never rfl (cC (pv 1)) (bW 3) #v[bN (aV Ck (pv 3) (fK v (pv 0) bw) rfl) #v[aT (dZ oS jE jF bX (pv 2) #[bw])] #v[aT (dZ oS jE jF bX (pv 2) #[aR bh (aR bK (fK v (pv 0) bw) (pv 3)) az])]],aK (dZ PySem.F.plainAttrs_str PySem.F.slot_str_join PySem.F.type_str_join Aq bw #[2])]
 rfl'
 let⟨j,w,x,k,l⟩:=id M;let⟨y,R,z⟩:=id l.hi;let⟨B,S,_,C⟩:=l.hv;refine⟨iz,λq p=>?_⟩;let v:=ao p (.lst []);refine⟨Y,o,1,⟨_,bJ.of (v _ _ s)⟩,dG (K:=bV) (e:=o) (b:=g.map V.int) (λi m d=>∃ u:Option V,m=[⇑↥bf,⇑↥o,⇑↥q,u]/\d q=⇑(.lst (((g.take i).map (qo e f 35)).map rY))/\aJ H d) ⟨none,1,af,v⟩ (λi m d _ h=>by let⟨_,_,_,a⟩:=h;exact bJ.of (a _ _ s)) ?_ ?_⟩
 ·rintro i ae m d F ⟨u,rfl,b,a⟩;rw[kB]at F;let⟨c,r,rfl⟩:=Option.map_eq_some_iff.mp F;let o:=(List.getElem?_eq_some_iff.mp r).1;let⟨o,s⟩:=N c (mC r)
  let G:((g.take (i+1)).map (qo e f 35)).map rY=((g.take i).map (qo e f 35)).map rY++[rY (qo e f 35 c)]:=by
   rw[take_snoc r,gm,gm];rfl
  let I:↑(((g.take i).map (qo e f 35)).map rY)<sizeLine:=aQ (by rw[b8,b8,gI];lia);let e:=gu.k (k:=Rt) (a _ _ l.hw);rw[show cE (lK j w x k) Rt=⇑↥k by kernel_rfl]at e;exists Y,Y,bf,Y,e,k,Y,.inl (bJ.of (a _ _ S)),1,mF B,Y;rw[vC];by_cases n:c∈B
  ·rw[decide_eq_true n];refine iK ⟨Y,.inl ⟨1,_,bJ.of b⟩,q,Z,b,I,Y,?_,bQ p a (aI q _ _)⟩;rw[af,G,← Ml C];unfold Vy;rw[if_pos n];rfl
  ·rw[decide_eq_false n];obtain⟨t,e⟩:∃ t,y[c.toNat]?=⇑t:=⟨_,nT (by rw[Paired.length z];lia)⟩;let⟨f,T,U⟩:=ko z e;let J:=gu.k (k:=kI) (a _ _ l.hw);rw[show cE (lK j w x k) kI=⇑↥j by kernel_rfl]at J;let L:=dh (a:=y.map V.ref) (j:=c.toNat) (v:=↥t) (by rw[kB,e];rfl);rw[show ((c.toNat:Nat):Int)=c by lia]at L;refine fT ⟨Y,.inl ⟨1,_,bJ.of b⟩,Y,bf,Y,J,Y,j,Q,V,bJ.of (a _ _ R),L,t,Q,V,dN.of (a _ _ U),Jj,q,Z,b,I,Y,?_,bQ p a (aI q _ _)⟩;rw[af,G,← Ml C];unfold Vy;rw[if_neg n,T];rfl
 ·rintro m d ⟨u,rfl,b,a⟩;rw[b8,gQ]at b;exact⟨1,Y,q,Y,1,b,by rw[b8];lia,O d a⟩
theorem Zq{lo:Int}{k:Nat}{d:_L2.St}{q:Int->Bool}{j:TG}{tt:TT}{l:TE}{b:Hp}{Q:VK}(z:k<=50000)(m:b c=none)
  (p:∀ (u:Option V) (y:Int) (a:Hp) (L:V->_L2.St->Hp->Prop) (M:_L2.St->Hp->Prop),lo<=y->y<lo+k->aJ b a->(if q y=true then L (.int y) (⇑(.int y)::d) a else M (⇑(.int y)::d) a)->j (.int y) (u::d) a fun f r=>tt f r λt n=>if t=true then l f n λv b=>L v f b else M f n)
  (x:∀ a,a c=⇑(.lst (((run lo k).filter q).map V.int))->aJ b a->Q ↥c a):rJ (K9 lo k) c j tt l (none::d) (aO b c (.lst [])) Q:=by
 refine qR (λi h a=>∃ u:Option V,h=u::d/\a c=⇑(.lst (((run lo i).filter q).map V.int))/\aJ b a) ⟨none,1,af,ao m _⟩ ?_ ?_
 ·rintro i h a s ⟨u,rfl,g,e⟩;let s:=List.length_filter_le q (run lo i);rw[fC]at s;refine p u _ a _ _ ∅ ∅ e ?_
  cases o:q (lo+i) with
  | true =>
   refine iK ⟨_,g,(by rw[b8];exact aQ ∅),Y,?_,bQ m e (aI c _ _)⟩;rw[af,oH,List.filter_append,List.filter_cons_of_pos o,gm];rfl
  | false =>
   refine fT ⟨Y,?_,e⟩;rw[oH,List.filter_append,List.filter_cons_of_neg (by rw[o];exact gP),List.filter_nil,ir];exact g
 ·rintro h a ⟨u,rfl,g,e⟩;exact x a g e
theorem RW{z:Addr}{d:Wp}{f:_L2.St}{q:Int->Bool}{k:TG}{tt:TT}{l:TE}{b:Hp}{Q:VK}(t:b z=⇑(.lst (d.map V.int)))(D:↑d<=50000)(m:b e=none)
  (v:∀ (u:Option V) (y:Int) (a:Hp) (L:V->_L2.St->Hp->Prop) (M:_L2.St->Hp->Prop),aJ b a->(if q y=true then L (.int y) (⇑(.int y)::f) a else M (⇑(.int y)::f) a)->k (.int y) (u::f) a fun h x=>tt h x λA n=>if A=true then l h n λB b=>L B h b else M h n)
  (C:∀ a,a e=⇑(.lst ((d.filter q).map V.int))->aJ b a->Q ↥e a):rJ (OH K z) e k tt l (none::f) (aO b e (.lst [])) Q:=by
 refine gv (K:=K) (h:=z) (a:=d.map V.int) (λi j a=>∃ u:Option V,j=u::f/\a e=⇑(.lst (((d.take i).filter q).map V.int))/\aJ b a) ⟨none,1,af,ao m _⟩ (by rintro i j a _ ⟨_,_,_,c⟩;exact bJ.of (c _ _ t)) ?_ ?_
 ·rintro i w j a o ⟨u,rfl,g,c⟩;rw[kB]at o;let⟨y,s,rfl⟩:=Option.map_eq_some_iff.mp o;let p:=take_snoc s;let o:=List.length_filter_le q (d.take i);rw[gI]at o;refine v u y a _ _ c ?_
  cases r:q y with
  | true =>
   refine iK ⟨_,g,(by rw[b8];exact aQ ∅),Y,?_,bQ m c (aI e _ _)⟩;rw[af,p,List.filter_append,List.filter_cons_of_pos r,gm];rfl
  | false =>
   refine fT ⟨Y,?_,c⟩;rw[p,List.filter_append,List.filter_cons_of_neg (by rw[r];exact gP),List.filter_nil,ir];exact g
 ·rintro j a ⟨u,rfl,g,c⟩;rw[b8,gQ]at g;exact C a g c
def RX{h:Int}:∀ {a:fY} {i:Nat} {y:Int},(i:Int)<=y->y<(i:Int)+↑a->(((a[(y-i).toNat]?).map Prod.fst).getD (h+1)=h->y∈lu h i a):=by
 intro a
 induction a with
 | nil=>intro i y c b;rw[oq]at b;lia
 | cons p r d =>
  intro i y c b e;rw[kH]at b;rw[lu];by_cases f:y=i
  ·subst f;let e:p.1=h:=by simpa using e
   rw[if_pos e];exact qx
  ·let z:y∈lu h (i+1) r:=d ∅ ∅ (by rw[show (y-(i:Int)).toNat=(y-((i+1:Nat):Int)).toNat+1 by lia,List.getElem?_cons_succ]at e;exact e);split
   ·exact j0 _ z
   ·exact z
def RY{a:fY}{h y:Int}(b:0<=y)(c:y<(↑a:Nat))(e:qX a y=h):y∈lu h 0 a:=by
 refine RX (i:=0) ∅ ∅ ?_;unfold qX at e;rw[nT (show y.toNat<↑a by lia)]at e;rw[show (y-((0:Nat):Int)).toNat=y.toNat by lia,nT (show y.toNat<↑a by lia)];exact e
def Mm{a:fY}{y:Int}{q:Int × Nat}(e:a[y.toNat]?=⇑q):qX a y=q.1:=by unfold qX;rw[e];rfl
def EM{r:Row}{g:Wp}(f:uo r)(m:∀ y,In r y->y∉g->In r (y-1)):↑r<=↑g:=by
 let z:=JZ (l:=r.map (·.1)) (L:=g) (List.nodup_iff_pairwise_ne.mpr (List.pairwise_map.mpr (f.1.imp_of_mem λ{a b} c hb l=>by have:=f.2 a c;lia))) λx n=>by
  let⟨p,h,rfl⟩:=List.mem_map.mp n;let n:=f.2 p h;refine Classical.byContradiction λo=>?_;let⟨t,q,s,u⟩:=m p.1 ⟨p,h,Int.le_refl _,n⟩ o;let⟨i,d⟩:=List.mem_iff_getElem?.mp h;let⟨j,c⟩:=List.mem_iff_getElem?.mp q;let⟨k,d⟩:=List.getElem?_eq_some_iff.mp d;let⟨l,c⟩:=List.getElem?_eq_some_iff.mp c;have P:=List.pairwise_iff_getElem.mp f.1;rcases Nat.lt_trichotomy i j with e|e|e
  ·have:=P i j k l e;rw[d,c]at this;lia
  ·subst e;rw[d]at c;rw[c]at s;lia
  ·have:=P j i l k e;rw[d,c]at this;lia
 rw[b8]at z;exact z
def wq(C t u v:Addr):TS:=λD a H=>∃ (l f w x q z:Addr) (j:Int) (U W:Y1) (g:gT) (h:dD) (o:gS) (i:fY) (p:Nat × Kd) (d:Row) (b k:Wp),a=[⇑↥l,⇑↥w,⇑↥x,⇑(.int j),⇑↥q,⇑↥z]/\oR C t u v H l f w x U W g h g h o i p d/\H q=⇑(.lst (b.map V.int))/\H z=⇑(.lst (k.map V.int))/\(¬ U q/\q≠l)/\(¬ U z/\¬ W z/\z≠l/\z≠f)/\↑b<=1000/\↑k<=90000/\JV (cy b)/\jS j/\oj ↑i (cy b)=true/\p.1<64/\(∀ y,In (cy b) y->y∈lu j 0 i)/\↑d+↑(cy b)<64/\↑g<=90/\↑h<=50/\↑o<=800/\(∀ y,y∈k↔In d y/\y∉b)/\∀ (m:Y1) (c:Addr) (n:Row) (r:Wp) (s:gS) (e:Hp),mL C t u v m e x (g++[h]) s i p n->Wo 1000 d W e w i g h->dM e l f->(∀ a,m a->¬ W a/\a≠l/\a≠f)->e c=⇑(.lst (r.map V.int))->(¬ m c/\¬ W c/\c≠l/\c≠f)->↑r<=↑k+↑b->(∀ y,y∈r↔In n y)->↑s=↑o+1->((∀ y,In n y↔In d y\/y∈b)\/∀ y,In n y↔In d y/\y∉b)->(∀ a y,H a=⇑y->¬ U a->a≠l->e a=⇑y/\¬ m a/\(a=z\/a≠c))->D.nx [⇑↥l,⇑↥w,⇑↥x,⇑(.int j),⇑↥q,⇑↥c] e
def IB.aH{aH j:Row}{W:Y1}{H:Hp}{w rw z:Addr}{k:fY}{g:gT}{l:dD}{f:Wp}(b:IB 1000 aH W H w h rw i t k g l)(m:¬ W z)(n:H z=⇑(.lst (f.map V.int)))(o:↑f<=1000*↑g)(p:∀ y,y∈f↔In j y):IB 0 j (λa=>W a\/a=z) (aO H w (.dK (lK h rw i z))) w h rw i z k g l:=by
 let d:∀ a c,H a=⇑(.lst c)->(aO H w (.dK (lK h rw i z))) a=⇑(.lst c):=λa c e=>by rw[aN (cS e b.hw)];exact e
 let⟨r,hp,al⟩:=id b.hp;refine⟨.inl b.ww,.inl b.wi,.inl b.wp,.inr rfl,λa q=>?_,af,b.hi.two (λc e=>d _ _ e) (λa c e=>by rw[aN (cS e b.hw)];exact e),b.hr.fr (λ_ y=>.inl y) λa c e _ _ _=>d _ _ e,⟨r,d _ _ hp,al.mono λv r ⟨a,e,y⟩=>⟨a,e,y.fr (λ_ y=>.inl y) λa c e _ _ _=>d _ _ e⟩⟩,b.ne,b.lst,⟨f,d _ _ n,o,p⟩,λe=>m (by rw[e];exact b.wi),λe=>m (by rw[e];exact b.wp)⟩;rcases q with q|rfl
 ·by_cases e:a=w
  ·rw[e];exact⟨_,af⟩
  ·let⟨c,r⟩:=b.al a q;exact⟨c,by rw[aN e];exact r⟩
 ·exact⟨_,d _ _ n⟩
class inductive HQ(C CS CW CB:Addr)
 | mk (l j w x:Addr) (U W:Y1) (c:gT) (b:dD) (d:gS) (a:fY) (e:Nat × Kd) (f:Row) (g:Wp) (_:vs=[↥l,↥w,↥x]) (_:oR C CS CW CB H l j w x U W c b c b d a e f) (_:↑c<=50) (_:↑b<=50) (_:↑d<=800) (_:0<↑a) (_:↑a<=1000) (_:e.1<64) (_:↑g<=20) (_:∀ p∈a,jS p.1) (_:∀ y,In f y->0<=y/\y<(↑a:Nat)) (_:hG a f g) (_:∀ (k m:Y1) (h:Row) (n:gS) (i:Hp),oR C CS CW CB i l j w x k m (c++[b]) b (c++[b]) b n a e h->↑n=↑d+1->(∀ y,In h y->0<=y/\y<(↑a:Nat))->hG a h g->Off l U W k m H i->Q .gc i)
theorem HR:‹(6,118,["b","a","f"],(HQ eK cH cT dB))›:=λD=>by
 specialize eZ ["b","a","f","F","k","_law_left"] D.Ww.F;let⟨m,g,bf,X,U,W,pe,O,aA,c,nW,aH,bs,rfl,St,lp,lr,ll,l0,li,lW,lb,fh,iv,bd,ae⟩:=h;let hu:=gM hr;refine⟨_,#v[aY 3 (aR bh (aR bK (fK hu (pv 1) bw) (aF D.uM (fN D) hr #[0,fR D.T.fE (fK hu (pv 1) bw)])) az),aY 4 (gO (N:=["_law_k","a","F"]) (jJ (c:=b9 pA) (f:=["b","a","f","F","k","_law_left"]) (d:=[none,some 1,some 3]) rfl rfl rfl nofun nofun rfl nofun rfl nofun) rfl (jA rfl D.T.jO #[fR D.T.fE (fK hu (pv 1) bw)]) (λ_ _ _ _ _ _=>(bW 0)) (λ_ _ _ _ _ _=>rG (aV eV (aR yR (aR Ge (fK hu (pv 1) bw) (pv 0)) az) (pv 2) (bz _))) (λ_ _ _ _ _ _=>(pv 0))),LH (N:=["_law_number","k"]) (l:=5) (jJ (c:=b9 pA) (f:=["b","a","f","F","k","_law_left"]) (d:=[none,some 4]) rfl rfl rfl nofun nofun rfl nofun rfl nofun) rfl (by assumption) rfl rfl (cC (fK hu (pv 1) bw)) (λ_ _ _ _ _ _=>(bW 0)) (λ_ _ _ _ _ _=>rG (aV Ag (pv 0) (pv 1) rfl)) (λ_ _ _ _ _ _=>(pv 0)),wB (c:=wq eK cH cT dB) (bN (aV za (aF D.uM (fN D) hr #[0,az]) az (bz _)) #v[aY 5 (bG iZ (pv 5) (pv 4)),aT (cL (pv 2) D.aM D.nD (qb D) hr bH #[3,aF D.Qo (tP D) hr #[4]])] #v[aT (cL (pv 2) D.aM D.nR (qc D) hr bH #[3,aF D.Qo (tP D) hr #[4]])]) ?b1,nK hu (pv 1) bw (pv 5) rfl,aT (aF D.Nm (lE D) hr #[1,fK hu (pv 1) bw])],?_⟩
 rfl'
 case b1 =>
  rintro D σ H ⟨m,g,bf,X,q,z,h,U,W,pe,O,aA,c,nW,aH,b,R,rfl,St,F,hz,nq,nz,ar,av,M,fh,N,lW,own,T,lp,lr,ll,ag,ae⟩;refine⟨Y,m,g,3,1,St.src,by decide,by decide,λan v v0 v1 S1 k1=>⟨Z,Y,?_⟩⟩;let⟨ls,ap⟩:=St.src.lst;let o:cD m H v:=bO k1;let f:=St.mv o S1;let t:=o _ _ F nq.2;let z1:=o _ _ hz nz.2.2.1;let aq:∀ a,U a->∃ d,v a=⇑d:=λa y=>f.Dp.al y;have aq:∀ a,W a->∃ d,v a=⇑d:=λa y=>f.wo.al y
  let ak:∀ (j:Y1) (S r:Hp) (w:Row) (cI:gS),aJ v S->mL eK cH cT dB j r X (pe++[O]) cI c nW w->rT U j S r->Wo 1000 aH W r bf c pe O/\dM r m g/\(∀ a,j a->¬ W a/\a≠m/\a≠g)/\∀ a d,S a=⇑d->¬ U a->r a=⇑d/\¬ j a:=by
   intro j S r w cI i C p
   let l:∀ a d,S a=⇑d->¬ U a->r a=⇑d/\¬ j a:=λa d e n=>⟨p.2.1 _ _ e n,λy=>by
    rcases p.1 a y with y|y
    ·exact n y
    ·rw[e]at y;cases y⟩
   let s:=f.same i;let⟨⟨_,u⟩,_,B⟩:=s.src.has;refine⟨?_,s.src.oT p (λy=>(f.du m y).2.1 rfl) (λy=>(f.du g y).2.2 rfl),λa y=>⟨λz=>?_,λe=>?_,λe=>?_⟩,l⟩
   ·let⟨k,jk,ps,x,G⟩:=s.wo;exact⟨k,jk,ps,x,G.fr (λa d e y=>(l _ _ e λq=>(f.du a q).1 y).1) p.2.2⟩
   ·let⟨d,e⟩:=s.wo.al z;exact (l _ _ e λq=>(f.du a q).1 z).2 y
   ·subst e;exact (l _ _ u λq=>(f.du _ q).2.1 rfl).2 y
   ·subst e;exact (l _ _ B λq=>(f.du _ q).2.2 rfl).2 y
  let⟨S',NR,u,UB,Vj,Ze,Zf,Zg,Zh,Zi,Bg,DE,ZU,ZV,ZW,ZX,am,aw,BG,LU⟩:=id f.Dp;refine dO (λ_=>?_) λ_=>?_
  ·refine⟨Y,Y,z,q,Z,z1,t,(by rw[b8,b8];exact gV (aQ ∅)),λs x=>?_⟩;let i:=ao x (.lst (R.map V.int++b.map V.int));let h2:(aO v s (.lst (R.map V.int++b.map V.int))) s=⇑(.lst ((R++b).map V.int)):=by rw[af,gm]
   let I:=f.new x;generalize aO v s (.lst (R.map V.int++b.map V.int))=S at i h2;refine⟨Y,X,u,Y,(LU.same i).L.hx,1,Y,Y,q,b,1,i _ _ t,by lia,λab r hr l SO=>⟨U,X,ab,pe,aA,c,nW,aH,cy b,h,O,1,f.Dp.same (i.trans l),hr,M,fh,N,lW,own,T,f.lst,lr,by lia,by lia,λj J w L4 k B=>?_⟩⟩;let⟨C,G,Zr,kp⟩:=ak j r J w _ (i.trans l) L4 B;let p:=kp _ _ (l _ _ h2) I.1;refine ae j s w (R++b) _ J L4 C G Zr p.1 ⟨p.2,I.2⟩ (by rw[cY];exact fF _) (λy=>by rw[List.mem_append,ag,k,kW];exact⟨λa=>a.elim (λa=>.inl a.1) .inr,λa=>(Classical.em (y∈b)).elim .inr λn=>.inl ⟨a.elim id λai=>absurd ai n,n⟩⟩) (by rw[cY];rfl) (.inl λy=>by rw[k,kW]) λa d e n1 n3=>?_;have L:=o _ _ e n3;exact⟨(kp _ _ (l _ _ (i _ _ L)) n1).1,(kp _ _ (l _ _ (i _ _ L)) n1).2,.inr λq=>by rw[q,x]at L;cases L⟩
  ·refine⟨Y,X,u,Y,LU.L.hx,1,Y,Y,q,b,1,t,by lia,λab r hr l SO=>⟨U,X,ab,pe,aA,c,nW,aH,cy b,h,O,1,f.Dp.same l,hr,M,fh,N,lW,own,T,f.lst,lr,by lia,by lia,λj J w L4 k B=>?_⟩⟩;let⟨C,G,Zr,kp⟩:=ak j r J w _ l L4 B;let p:=kp _ _ (l _ _ z1) nz.1;exact ae j z w R _ J L4 C G Zr p.1 ⟨p.2,nz.2⟩ ∅ (λy=>by rw[ag,k,kW]) (by rw[cY];rfl) (.inr λy=>by rw[k,kW]) λa d e n1 n3=>⟨(kp _ _ (l _ _ (o _ _ e n3)) n1).1,(kp _ _ (l _ _ (o _ _ e n3)) n1).2,Classical.em _⟩
 let⟨k,jk,ps,x,G⟩:=id St.wo;let⟨ls,ap⟩:=St.src.lst;let⟨as,yj,pa⟩:=id G.hi;let la:=Paired.length pa;let zi:=gu.k (k:=kI) G.hw;rw[show cE (lK k jk ps x) kI=⇑↥k by kernel_rfl]at zi;refine⟨Y,bf,Y,zi,Y,Y,bf,Y,zi,k,Y,.inl (bJ.of yj),m,g,Y,St.src,by rw[b8,la];lia,by rw[b8,la];lia,λan v v0 v1 S1 k1=>?_⟩;rw[b8,la]at v1;let o:cD m H v:=bO k1;let t1:∀ a xs,H a=⇑(.tup xs)->v a=⇑(.tup xs):=λa xs e=>o _ _ e (cS e ap);have f:=St.mv o S1;have Zs:=G.fr (λa d e y=>o _ _ e (St.dw a y).1) t1;have RZ:=o _ _ yj (St.dw k G.wi).1
 let aq:∀ y:Int,0<=y->y<(↑c:Nat)->∃ (M:Addr) (p:Int × Nat),c[y.toNat]?=⇑p/\G9 v M p/\oU (as.map V.ref) y=⇑↥M:=λy B N=>by
  obtain⟨M,b⟩:∃ M,as[y.toNat]?=⇑M:=⟨_,nT ∅⟩;let⟨p,ep,ht⟩:=ko pa b;let Fl:=dh (a:=as.map V.ref) (j:=y.toNat) (v:=↥M) (by rw[kB,b];rfl);rw[show ((y.toNat:Nat):Int)=y by lia]at Fl;exact⟨M,p,ep,t1 _ _ ht,Fl⟩
 let⟨M,p,ep,ht,Fl⟩:=aq an v0 ∅;exists k,Q,V,bJ.of RZ,Fl,M,Q,V,dN.of ht,DP;let⟨R,IC,av,ag⟩:=id Zs.hv;let v:=gu.k (k:=kI) Zs.hw;rw[show cE (lK k jk ps x) kI=⇑↥k by kernel_rfl]at v;let M:=gu.k (k:=Rt) Zs.hw;rw[show cE (lK k jk ps x) Rt=⇑↥x by kernel_rfl]at M;obtain⟨b,M⟩:∃ b,b=(run 0 ↑c).filter λy=>decide (qX c y=p.1):=⟨Y⟩
 let Fe:∀ y,y∈b↔(0<=y/\y<(↑c:Nat))/\qX c y=p.1:=λy=>by
  rw[M,List.mem_filter,vD,decide_eq_true_iff];lia
 let ar:↑b<=↑c:=by
  let z:=List.length_filter_le (λy=>decide (qX c y=p.1)) (run 0 ↑c);rw[fC,← M]at z;exact z
 let lG:uo (cy b):=Gk (by rw[M];exact (An _ _).filter _);let hR:∀ y,In (cy b) y->(0<=y/\y<(↑c:Nat))/\qX c y=p.1:=λy t=>(Fe y).mp (kW.mp t)
 let lR:=EM (g:=bs) lG λy t n=>by
  let⟨⟨B,N⟩,e⟩:=hR y t;let⟨a,L,_⟩:=bd y B N n;exact kW.mpr ((Fe _).mpr ⟨⟨a,by lia⟩,by rw[← L];exact e⟩)
 let lV:↑aH<=↑bs:=by
  let⟨S',NR,u,UB,Vj,Ze,Zf,Zg,Zh,Zi,Bg,DE,ZU,ZV,ZW,ZX,am,aw,BG,d⟩:=id St.Dp
  exact EM d.lG.1 λy t n=>by
   let⟨B,N⟩:=iv y t;exact (bd y B N n).2.2.mp t
 let hb:∀ q∈cy b,0<=q.1/\q.1<q.2/\q.2<=(↑c:Nat):=λq F=>by
  let d:=lG.2 q F;let⟨⟨a,_⟩,_⟩:=hR q.1 ⟨q,F,Int.le_refl _,d⟩;let⟨⟨_,L⟩,_⟩:=hR (q.2-1) ⟨q,F,by lia,by lia⟩;exact⟨a,d,by lia⟩
 refine⟨Y,bf,Y,v,k,Y,.inl (bJ.of RZ),(↑c:Nat),by rw[b8,la],by lia,by lia,λak cO=>Zq (lo:=0) (q:=λy=>decide (qX c y=p.1)) ∅ cO (λan y H5 ar ap B N v C=>?_) λS q2 i=>?_⟩
 ·let⟨j,l,r,s,u⟩:=aq y B ∅;let d:=gu.k (k:=kI) (v _ _ Zs.hw);rw[show cE (lK k jk ps x) kI=⇑↥k by kernel_rfl]at d;exists Y,bf,Y,d,Y,k,Q,V,bJ.of (v _ _ RZ),u,j,Q,V,dN.of (v _ _ s),DP,Y,1,Y;rw[Mm r]at C;by_cases g:l.1=p.1
  ·rw[if_pos (by simp[g])]at C ⊢;exact⟨Y,C⟩
  ·rw[if_neg (by simp[g])]at C ⊢;exact C
 let q2:S ak=⇑(.lst (b.map V.int)):=by rw[M];exact q2
 let S:=i _ _ Zs.hw;let M:=gu.k (k:=Rt) S;rw[show cE (lK k jk ps x) Rt=⇑↥x by kernel_rfl]at M;let I:=f.new cO;let J8:=f.same i;refine⟨Y,bf,Y,M,x,1,⟨_,bJ.of (i _ _ IC)⟩,λz hz=>RW (K:=bV) (f:=[⇑↥ak]) (q:=λy=>!decide (y∈b)) (i _ _ IC) ∅ hz (λan y H5 f ap v C=>?_) λr z3 l=>?_⟩
 ·exists Y,Y,ak,Y,.inl (bJ.of (v _ _ q2)),1,mF _,Y;rw[if_pos rfl,vC];by_cases g:y∈b
  ·rw[if_neg (by simp[g])]at C ⊢;exact C
  ·rw[if_pos (by simp[g])]at C ⊢;exact⟨Y,C⟩
 let f:=List.length_filter_le (λy=>!decide (y∈b)) R;refine⟨m,g,bf,X,ak,z,p.1,U,W,pe,O,aA,c,nW,aH,b,Y,J8.same l,l _ _ q2,z3,⟨I.1,I.2.2.1⟩,J8.new hz,by lia,by lia,⟨by lia,λq F=>?_⟩,fh p (mC ep),List.all_eq_true.mpr λq F=>?_,lW,λy t=>?_,by lia,by lia,lr,ll,λy=>by rw[List.mem_filter,ag];simp,λj u w f cI J L4 aw S4 Zr ax am k ay aS s kp=>?_⟩
 ·have:=hb q F;exact⟨⟨by lia,by lia⟩,by lia,by lia⟩
 ·have:=hb q F;unfold Q0;rw[decide_eq_true this.1,decide_eq_true this.2.1,decide_eq_true this.2.2];rfl
 ·let⟨⟨B,N⟩,e⟩:=hR y t;exact RY B N e
 let⟨Z1,T,Z2,f,Zo⟩:=id aw;let w5:=Zo.aH am.2.1 ax ∅ ay;refine⟨Y,Y,bf,Y,wD.k (k:=Rt) Zo.hw (by show 4<sizeLine;decide),?_⟩;rw[show dX (lK Z1 T Z2 f) Rt ↥u=lK Z1 T Z2 u by kernel_rfl];let k5:=aI bf J (.dK (lK Z1 T Z2 u));generalize aO J bf (.dK (lK Z1 T Z2 u))=H5 at w5 k5;let f:=gu.k (k:=kR) w5.hw;rw[show cE (lK Z1 T Z2 u) kR=⇑↥T by kernel_rfl]at f;let dU:∀ a,j a->¬ (W a\/a=u)/\a≠m/\a≠g:=λa y=>⟨λq=>q.elim (Zr a y).1 λq=>am.1 (by rw[← q];exact y),(Zr a y).2⟩;have dW:∀ a,W a\/a=u->a≠m/\a≠g:=λa y=>y.elim (St.dw a) λq=>by rw[q];exact am.2.2
 let k:∀ a xs,J a=⇑(.tup xs)->H5 a=⇑(.tup xs):=λa xs e=>k5 _ _ e (cS e Zo.hw);have L5:=L4.fr (λa d e y=>k5 _ _ e λq=>(Zr a y).1 (by rw[q];exact Zo.ww)) k;have S5:=S4.keep k5 (St.dw bf G.ww).1.symm (St.dw bf G.ww).2.symm;refine⟨Y,Y,bf,Y,f,λa=>W a\/a=u,bf,T,c,pe,O,O,1,⟨Z1,T,Z2,u,w5⟩,by lia,λc f ⟨k,p,e⟩=>?_,λH6 a0 DQ a1 _=>?_⟩
 ·rw[w5.hw]at e;simp only[Option.some.injEq,HO.dK.injEq,lK,List.cons.injEq,Prod.mk.injEq,V.ref.injEq,true_and,and_true]at e;let⟨rfl,rfl,rfl,rfl⟩:=e;exact w5.hr
 let S6:dM H6 m g:=by
  let⟨n,b,c,d,ab,L,e2,h3⟩:=S5;exact⟨n,b,c,d,ab,DQ _ _ L (λz=>(dW m z).1 rfl),DQ _ _ e2 (λz=>(dW g z).2 rfl),h3⟩
 refine ae j (λa=>W a\/a=u) w cI H6 ⟨S6,L5.fr (λa d e z=>DQ _ _ e (dU a z).1) a1,by simp,a0,dU,dW⟩ aS (λy t=>?_) (λy B N n=>?_) λa d e n1 I n3=>?_
 ·rcases s with s|s
  ·exact ((s y).mp t).elim (iv y) λz=>((Fe y).mp z).1
  ·exact iv y ((s y).mp t).1
 ·let⟨a,L,e⟩:=bd y B N n
  let ai:y∈b↔y-1∈b:=by
   rw[Fe,Fe,L];lia
  exists a,L;rcases s with s|s
  ·rw[s,s,e,ai]
  ·rw[s,s,e,ai]
 ·let L:=o _ _ e n3;let⟨e4,m1,b⟩:=kp a d (l _ _ (i _ _ L)) n1 n3
  let nz:a≠u:=b.elim (λq=>by
   have:=i _ _ L;rw[q,hz]at this
   cases this) id
  exact⟨DQ _ _ (k5 _ _ e4 λq=>I (by rw[q];exact G.ww)) λq=>q.elim I nz,m1,λq=>q.elim I nz⟩
def A9(a:Row)(b:Wp):Prop:=(∀ h,jh a h=(b.count h:Nat))/\(a.map (·.2)).sum=(↑b:Nat)
class inductive Mn(C CS CW CB CD:Addr)
 | mk (U W:Y1) (w x d:Addr) (e:gT) (h:dD) (i:gS) (a:fY) (b:Nat × Kd) (f:Row) (c:Wp) (_:vs=[↥w,↥x,↥d]) (_:mL C CS CW CB U H x e i a b f) (_:Wo 1000 f W H w a e h) (_:H d=⇑(.lst (c.map V.int))) (_:↑c<=5000) (_:↑a<=1000) (_:b.2.C=CD) (_:A9 b.2.fc c) (_:∀ g,aJ H g->Q (.bl true) g)
theorem vY:‹(4,119,["a","f","N"],(Mn eK cH cT dB jW))›:=λD=>by
 specialize eZ ["a","f","N","_law_hands","F","_law_sign_here"] D.Wx.F;let⟨U,W,bf,x,k,B,ak,C,F,G,I,J,rfl,l,wo,r,am,li,M,N,ab⟩:=h;let hu:=gM hr;let⟨m,jk,ps,vl,s⟩:=id wo;let⟨as,O,R⟩:=id s.hi;let la:=Paired.length R;let zi:=gu.k (k:=kI) s.hw;rw[show cE (lK m jk ps vl) kI=⇑↥m by kernel_rfl]at zi;refine⟨_,#v[aY 3 (bM #[bG IQ az az]),eO PassesOwn.never rfl (cC (fK hu (pv 0) bw)) (j6 (n:=2) rfl (bR (bW 4) (bR (bW 5) gB))) #v[bN (aV o6 (pv 4) (pv 3) rfl) #v[aT (dZ oS jE jF bX (pv 3) #[4])] bu],eO PassesOwn.never rfl (cC (pv 3)) (bW 4) #v[bN (iY (jq (aF D.Um (jD D 2) hr #[cL (pv 1) D.aM D.n7 (AW D) hr bH #[4],fR D.T.fE (gO (N:=["_law_one","F"]) (jJ (c:=b9 kg) (f:=["a","f","N","_law_hands","F","_law_sign_here"]) (d:=[none,some 4]) rfl rfl rfl nofun nofun rfl nofun rfl nofun) rfl (cC (pv 2)) (λ_ _ _ _ _ _=>(bW 0)) (λ_ _ _ _ _ _=>rG (aV eV (pv 0) (pv 1) (bz _))) (λ_ _ _ _ _ _=>(pv 0)))]))) #v[aK nG] bu],aK (aF D.Um (jD D 2) hr #[fD (pv 1) D.aM D.oa (yG D) hr bH,fR D.T.fE (pv 2)])],?_⟩
 rfl'
 refine⟨Z,⟨by decide,by decide,by decide⟩,mh,λa S=>?_⟩;let n:=ao S (.lst [.int ((10:Int)^(59:Int).toNat)]);let T:(aO H a (.lst [.int ((10:Int)^(59:Int).toNat)])) a=⇑(.lst ([(10:Int)^(59:Int).toNat].map V.int)):=af;generalize aO H a (.lst [.int ((10:Int)^(59:Int).toNat)])=H1 at n T;refine⟨Y,bf,Y,gu.k (k:=kI) (n _ _ s.hw),m,1,⟨_,bJ.of (n _ _ O)⟩,dG (K:=bV) (e:=m) (b:=as.map V.ref) (λi b f=>∃ (u v:Option V) (L:Wp),b=[⇑↥bf,⇑↥x,⇑↥k,⇑↥a,u,v]/\f a=⇑(.lst (L.map V.int))/\↑L<=1+i/\aJ H f) ⟨none,none,Y,T,fF _,n⟩ (by rintro i b f _ ⟨_,_,_,_,_,_,d⟩;exact bJ.of (d _ _ O)) ?_ ?_⟩
 ·rintro i y b f j ⟨u,v,L,rfl,e,X,d⟩;rw[kB]at j;let⟨t,c,rfl⟩:=Option.map_eq_some_iff.mp j;let g:=(List.getElem?_eq_some_iff.mp c).1;let⟨p,m,g⟩:=ko R c;exists t,Y,dN.of (d _ _ g),1,E,1,Z;exists Y,Y,a,Y,.inl (bJ.of e),1,mF _,Y;refine dO (λ_=>?_) λ_=>⟨E,L,1,e,by lia,d⟩;refine⟨Y,.inl ⟨1,_,bJ.of e⟩,Y,a,Z,e,by rw[b8];exact aQ ∅,?_⟩;exact⟨E,L++[p.1],1,by rw[af,gm];rfl,by rw[cY,iA];lia,bQ S d (aI a _ _)⟩
 rintro b f ⟨u,v,L,rfl,e,X,d⟩;rw[b8]at X;refine⟨Y,a,1,⟨_,bJ.of e⟩,dG (K:=bV) (e:=a) (b:=L.map V.int) (λi b o=>∃ (u v:Option V),b=[⇑↥bf,⇑↥x,⇑↥k,⇑↥a,u,v]/\aJ f o) ⟨E,1,aJ.refl _⟩ (by rintro i b o _ ⟨_,_,_,g⟩;exact bJ.of (g _ _ e)) ?_ ?_⟩
 ·rintro i y b o j ⟨u,v,rfl,g⟩;rw[kB]at j;let⟨h,eh,rfl⟩:=Option.map_eq_some_iff.mp j;let c:=d.trans g;let⟨ae,SW,t,wl,sh,bl,kn,du,bk,dS,st,op,dw,sg,ow,pw,db,tb,ag,w⟩:=id (l.same c);exists Y,x,t,Y,w.L.hx,1,Y,U,x,B,C,F,G,I,h,1,l.same c,M;refine⟨Y,k,1,⟨_,bJ.of (c _ _ r)⟩,λai a=>RW (K:=bV) (f:=[⇑(.int h)]) (q:=λy=>decide (y=h)) (c _ _ r) ∅ a (λu y z e f p a=>?_) λH4 q4 q=>?_⟩
  ·exists Y,Y,1,Y;by_cases e:y=h
   ·rw[if_pos (by simp[e])]at a ⊢;exact⟨Y,a⟩
   ·rw[if_neg (by simp[e])]at a ⊢;exact a
  let ct:J.count h=↑(J.filter λy=>decide (y=h)):=by
   rw[List.count_eq_countP,List.countP_eq_length_filter];rfl
  refine⟨ai,Y,.inl (bJ.of q4),E,1,.inl ⟨1,by rw[N.1,ct,b8]⟩,λz p=>⟨true,1,fT ⟨E,1,g.trans (q.trans p)⟩⟩⟩
 ·rintro b o ⟨u,v,rfl,g⟩;let c:=d.trans g;let⟨ae,SW,t,wl,sh,bl,kn,du,bk,dS,st,op,dw,sg,ow,pw,db,tb,ag,w⟩:=id (l.same c);refine⟨Y,x,t,Y,w.L.hx,1,U,x,B,C,F,G,I,1,l.same c,M,λH4 q=>?_⟩;exact⟨Y,k,Y,.inl (bJ.of ((c.trans q) _ _ r)),E,1,.inl ⟨1,by rw[N.2,b8]⟩,λz p=>ab z ((c.trans q).trans p)⟩
def Vz{n m:Nat}(h:m<=40):Good n (e0 m):=by
 refine⟨λc a e b=>?_,RU m,by rw[yq];exact h,λ_=>0,λx c _ a=>?_,λ_ _ _=>(by decide:(0:Int)<=200)⟩
 ·rw[xC a]at b;cases b
 ·rw[xC (mC a)];rfl
theorem ID.off{l:Addr}{U W d g:Y1}{H h:Hp}(f:ID l U W d g H h):Off l U W d g H h:=λa i e b c j=>⟨f.2.1 a i e j b c,(λy=>(f.1 a (.inl y)).elim b λz=>z.elim c λz=>by rw[e]at z;cases z),λy=>(f.1 a (.inr y)).elim b λz=>z.elim c λz=>by rw[e]at z;cases z⟩
theorem Off.keep{l:Addr}{U W:Y1}{H a:Hp}(k:cD l H a):Off l U W U W H a:=λb c e d f g=>⟨k b c e g,d,f⟩
theorem Off.trans{l:Addr}{U W a b c d:Y1}{H e f:Hp}(j:Off l U W a b H e)(k:Off l a b c d e f):Off l U W c d H f:=λg h m n o i=>by
 let⟨p,q,r⟩:=j g h m n o i;exact k g h p q r i
theorem Mp{a:Wp}(d:a.Nodup):∀ {b:Wp},(∀ x∈b,x∈a)->(a.map λk=>((b.count k:Nat):Int)).sum=(↑b:Nat)
 | [],h=>by
  clear d h
  induction a with
  | nil=>rfl
  | cons k r c=>rw[iu,List.sum_cons,c];rfl
 | x::b,h=>by
  let c:=Mp d (b:=b) λy f=>h y (j0 _ f)
  let g:(a.map λk=>(((x::b).count k:Nat):Int)).sum=(a.map λk=>((b.count k:Nat):Int)).sum+(a.count x:Nat):=by
   clear c d h
   induction a with
   | nil=>rfl
   | cons k r c =>
    rw[iu,List.sum_cons,c,iu,List.sum_cons,List.count_cons,List.count_cons];by_cases e:k=x
    ·subst e;simp;lia
    ·rw[if_neg (by simpa using λf=>e f.symm),if_neg (by simpa using e)];lia
  let e:a.count x=1:=by
   let f:=List.nodup_iff_count.mp d x;let f:=List.count_pos_iff.mpr (h x qx);lia
  rw[g,c,e,kH];rfl
theorem Mq{f:Int->Int}:∀ {a:Row},a.Pairwise (λp q=>p.1<q.1)->(∀ p∈a,p.2=f p.1)->∀ h,jh a h=if h∈a.map (·.1) then f h else 0
 | [],_,_,h=>rfl
 | p::r,up,v,h=>by
  let q:=List.pairwise_cons.mp up;let b:=Mq q.2 (λx c=>v x (j0 _ c)) h
  let d:jh (p::r) h=(if p.1=h then p.2 else 0)+jh r h:=by
   unfold jh;by_cases c:p.1=h
   ·rw[if_pos c,List.filter_cons_of_pos (by simp[c]),iu,List.sum_cons]
   ·rw[if_neg c,List.filter_cons_of_neg (by simp[c]),Int.zero_add]
  rw[d,b,iu];by_cases c:p.1=h
  ·rw[if_pos c,if_neg λm=>by
    let⟨y,b,e⟩:=List.mem_map.mp m;have:=q.1 y b
    lia,if_pos (by rw[c];exact qx),v p qx,c,Int.add_zero]
  ·rw[if_neg c,Int.zero_add];by_cases m:h∈r.map (·.1)
   ·rw[if_pos m,if_pos (j0 _ m)]
   ·rw[if_neg m,if_neg λz=>(List.mem_cons.mp z).elim (λe=>c e.symm) m]
def A9.read{d a:Row}{f b:Wp}(p:A9 d f)(s:ZT b a):A9 (d++a) (f++b):=by
 refine⟨λh=>?_,?_⟩
 ·let g:jh (d++a) h=jh d h+jh a h:=by unfold jh;rw[List.filter_append,gm,List.sum_append]
  rw[g,p.1,Mq (f:=λk=>(b.count k:Nat)) s.up (λp c=>(s.val p c).2) h,List.count_append];by_cases m:h∈a.map (·.1)
  ·rw[if_pos m];rfl
  ·let z:b.count h=0:=List.count_eq_zero.mpr λz=>by
    let⟨q,c,e⟩:=s.all h z;exact m (List.mem_map.mpr ⟨q,c,e⟩)
   rw[if_neg m,z];rfl
 ·rw[gm,List.sum_append,p.2,cY]
  let e:a.map (·.2)=(a.map (·.1)).map λk=>((b.count k:Nat):Int):=by
   rw[nE];exact uN λq c=>(s.val q c).2
  rw[e,Mp (List.nodup_iff_pairwise_ne.mpr (List.pairwise_map.mpr (s.up.imp λl e=>by lia))) λx g=>by
   let⟨q,c,e⟩:=s.all x g
   exact List.mem_map.mpr ⟨q,c,e⟩]
  rfl
inductive wu(C CS CW CB CD l c x w pd:Addr)(b:Nat)(H:Hp):Prop
 | mk (U W:Y1) (f:gT) (d:dD) (i:gS) (a:fY) (e:Nat × Kd) (g:Row) (h:Wp) (_:oR C CS CW CB H l c w x U W f d f d i a e g) (_:H pd=⇑(.lst (h.map V.int))) (_:¬ U pd/\¬ W pd/\pd≠l/\pd≠c) (_:1<=↑d) (_:↑d<=4) (_:↑f<=8+4*b) (_:↑i<=8+4*b) (_:↑a<=120+60*b) (_:e.1<=2+b) (_:e.2.C=CD) (_:↑e.2.fc<=12*b) (_:↑h<=200*b) (_:A9 e.2.fc h) (_:∀ p∈a,jS p.1) (_:∀ y,In g y->0<=y/\y<(↑a:Nat)) (_:qp a g (2+b)) (_:Good ↑a d)
def wx(C j k m:Addr):TS:=λD d H=>∃ (l n w x o:Addr) (q r s t u:Option V) (U W:Y1) (e:gT) (b:dD) (g:gS) (a:fY) (f:Nat × Kd) (c:Row) (v:Nat),d=[q,⇑↥l,⇑↥x,⇑↥w,⇑↥o,r,s,t,u]/\oR C j k m H l n w x U W e b e b g a f c/\↑e<=700/\↑b<=50/\↑g<=700/\↑a<=40000/\f.1<=800/\(∀ p∈a,jS p.1)/\(∀ y,In c y->0<=y/\y<(↑a:Nat))/\qp a c v/\∀ (y:Y1) (h:gT) (z:gS) (d:fY) (A:Nat) (i:Hp),oR C j k m i l n w x y W h b h b z d (A,f.2) c->h.length<=↑e+1->↑z<=↑g+1->↑a<=d.length/\d.length<=↑a+60->A<=f.1+1->(∀ p∈d,jS p.1)->qp d c (v+1)->Off l U W y W H i->D.nx [q,⇑↥l,⇑↥x,⇑↥w,⇑↥o,r,s,t,u] i
def wy(C j k m:Addr):TS:=λD g H=>∃ (l o w x p:Addr) (q r s t u:Option V) (U W:Y1) (c:gT) (b:dD) (d:gS) (a:fY) (e:Nat × Kd) (f:Row) (n:Nat),g=[q,⇑↥l,⇑↥x,⇑↥w,⇑↥p,r,s,t,u]/\oR C j k m H l o w x U W c b c b d a e f/\↑c<=50/\↑b<=50/\↑d<=700/\↑a<=1000/\e.1<64/\n<=20/\(∀ g∈a,jS g.1)/\(∀ y,In f y->0<=y/\y<(↑a:Nat))/\qp a f n/\∀ (v z:Y1) (g:gT) (h:Row) (A:gS) (i:Hp),oR C j k m i l o w x v z g b g b A a e h->g.length<=↑c+1->↑A<=↑d+1->(∀ y,In h y->0<=y/\y<(↑a:Nat))->qp a h n->Off l U W v z H i->D.nx [q,⇑↥l,⇑↥x,⇑↥w,⇑↥p,r,s,t,u] i
def Sb(D:bS)(bB:O9 bV "law" "law" ML YD YE):aZ cX bf bV cW cV cQ 48 YD YE ["m"] (FO bV):=by
 let N6:aZ cX bf bV cW cV cQ 1 _ _ ["m"] (VU bV):=JK D;let bY:aZ cX bf bV cW cV cQ 1 _ _ ["b","I"] uf:=fN D;let vZ:aZ cX bf bV cW cV cQ 3 _ _ ["c"] (Dm eK cH cT dB jW):=r9 D;let HS:aZ cX bf bV cW cV cQ 1 _ _ [] Mb:=EC D;let HU:aZ cX bf bV cW cV cQ 9 _ _ ["b","a","f"] (A7 eK cH cT dB):=EK D;let Kc:aZ cX bf bV cW cV cQ 46 _ _ ["b","a","f"] (Hx eK cH cT dB):=Hy D (Hw D) (EI D) (Hu D) (Hv D);let BO:aZ cX bf bV cW cV cQ 6 _ _ ["c","g"] (G5 eK cH cT dB):=pZ D;let SE:aZ cX bf bV cW cV cQ 5 _ _ ["c","q","j"] (yV eK cH cT dB ft Or):=qb D;let SG:aZ cX bf bV cW cV cQ 5 _ _ ["c","q","j"] (yV eK cH cT dB fu λa b=>a/\¬ b):=qc D;let Ox:aZ cX bf bV cW cV cQ 2 _ _ ["c"] (Ma eK cH cT dB):=nQ D;let EN:aZ cX bf bV cW cV cQ 2 _ _ ["c"] (Q4 eK cH):=AN D;let Ke:aZ cX bf bV cW cV cQ 6 _ _ ["b","a","f"] (HQ eK cH cT dB):=HR D;let uF:aZ cX bf bV cW cV cQ 42 _ _ ["d","e"] (AX 41):=iR D 41;let Kf:aZ cX bf bV cW cV cQ 1 _ _ ["a","k"] HN:=HP D;let Kg:aZ cX bf bV cW cV cQ 1 _ _ ["a","d"] Rv:=lE D;let Kh:aZ cX bf bV cW cV cQ 5 _ _ ["b","a","f"] (Dt eK cH cT dB):=yl D;let BP:aZ cX bf bV cW cV cQ 7 _ _ ["c","g"] (G6 eK cH cT dB jW):=yF D;let xD:aZ cX bf bV cW cV cQ 4 _ _ ["a","f","N"] (Mn eK cH cT dB jW):=vY D;let m9:aZ cX bf bV cW cV cQ 5 _ _ ["r","J"] (zT 4):=jD D 4;refine eZ ["m","b","f","a","N","_law_k","e","k","J"] bB λdc ce zn s ak vs Q E b _ a6=>?_;let⟨a,ns,rfl,hS,ce,G⟩:=a6;have H:=gM b;refine⟨_,#v[aY 1 (aF D.kc N6 b #[0]),aY 2 (oB D.aM.ZI vZ (b.mono (by decide)) rfl D.aM.m D.mu.b .nil bH),aY 3 (OQ HS (b.mono (by decide)) rfl D.Us.m D.Us.F.kp D.Us.b .nil bH),aT (aF D.Wu HU b #[1,3,2]),aY 4 (bM ah),eO PassesOwn.never rfl (jA rfl D.T.jO #[aF D.uM bY b #[1,az]]) (bW 5) #v[wB (c:=wx eK cH cT dB) (bN (aV eV (aF D.uM bY b #[1,az]) az (bz _)) #v[bN (iY (jq (aF D.Qp Kh b #[1,3,2]))) #v[aK nG] bu] bu) ?b1,bN (iY (jq (aF D.Wr Kc b #[1,3,2]))) #v[aK nG] bu,wB (c:=wy eK cH cT dB) (bN (PW.pt (oW (aV eV (aF D.uM bY b #[1,az]) az (bz _)) (lZ (aV za (fR D.T.fE (fK H (pv 3) bw)) az (bz _))))) #v[aT (aF D.Ww Ke b #[1,3,2])] bu) ?b2,aY 6 (aF D.uM bY b #[1,fR D.T.fE (fK H (pv 3) bw)]),aY 7 (aF D.Gw uF b #[fK H (pv 3) bw,6]),aY 8 (aF D.Wv Kf b #[3,7]),bN (PW.pt (FA (iY (jq (aF D.Um m9 b #[cL (pv 2) D.aM D.n6 BP b bH #[6],8]))) (DB (iY (jq (aF D.Um m9 b #[cL (pv 2) D.aM D.Yz BO b bH #[6],8])))))) #v[aK nG] bu,aT (aF D.Nm Kg b #[3,fK H (pv 3) bw]),aT (dZ oS PySem.F.slot_list_extend PySem.F.type_list_extend jC (pv 4) #[gO (N:=["_law_number","a"]) (jJ (c:=b9 ML) (f:=["m","b","f","a","N","_law_k","e","k","J"]) (d:=[none,some 3]) rfl rfl rfl nofun nofun rfl nofun rfl nofun) rfl (cC (pv 7)) (λ_ _ _ _ _ _=>(bW 0)) (λ_ _ _ _ _ _=>rG (aV Ag (pv 0) (fK H (pv 1) bw) rfl)) (λ_ _ _ _ _ _=>(aR yR (aR Ge (fK H (pv 1) bw) (pv 0)) az))]),bN (iY (jq (aF D.Wx xD b #[3,2,4]))) #v[aK nG] bu],aK (aF D.Um m9 b #[fD (pv 2) D.aM D.no EN b bH,bG dH (fR D.T.fE (fK H (pv 3) bw)) az])],?_⟩
 rfl'
 case b1 =>
  rintro D m ak ⟨l,d,bf,x,c,v,T,X,u7,u8,U,W,g,B,r,t,i,o,n,rfl,St,j,h,w,li,k,M,I,N,G⟩;refine⟨Y,l,d,6,1,St.src,by decide,by decide,λam H1 _ _ J f=>⟨1,Y,dO (λ_=>?_) λ_=>G U g r t i.1 H1 (St.mv (bO f) J) ∅ ∅ ⟨by lia,by lia⟩ ∅ M (N.more ∅) (Off.keep (bO f))⟩⟩;exact⟨Y,Y,Y,l,d,bf,x,U,W,g,B,g,B,r,t,i,o,1,St.mv (bO f) J,by lia,by lia,h,by lia,by lia,by lia,λe H2 a6 b EL p u y J8 q=>⟨true,1,fT (G e _ _ _ _ H2 J8 (by rw[cY];exact fF _) ∅ ⟨by rw[cY];lia,by rw[cY,mz];lia⟩ (fF _) (λav hp=>(List.mem_append.mp hp).elim (M av) λz=>by let⟨_,_,rfl⟩:=List.mem_map.mp z;exact p) (N.xg I) ((Off.keep (bO f)).trans q.off))⟩⟩
 case b2 =>
  rintro D m ak ⟨l,d,bf,x,c,v,T,X,u7,u8,U,W,g,B,r,t,i,o,n,rfl,St,j,h,w,li,k,b,M,I,N,G⟩;let⟨bs,hL,lb,v,bd,hm⟩:=N;let⟨u,p,C,O,q⟩:=id St.wo;let⟨as,yj,pa⟩:=id q.hi;let la:=Paired.length pa;refine⟨Y,l,d,3,1,St.src,by decide,by decide,λam H1 _ _ J f=>⟨1,Y,?_⟩⟩;let oV:=St.mv (bO f) J;let⟨w,b⟩:=St.src.lst;let w:=q.fr (λa F e y=>(bO f) _ _ e (St.dw a y).1) (λa xs e=>(bO f) _ _ e (cS e b));let b:=(bO f) _ _ yj (St.dw u q.wi).1;let zi:=gu.k (k:=kI) w.hw;rw[show cE (lK u p C O) kI=⇑↥u by kernel_rfl]at zi;refine Jx (q:=(0:Int)<(↑(as.map V.ref):Nat)) (λz=>⟨Y,bf,Y,zi,u,Y,.inl (bJ.of b),Z,Y,z⟩) (λb=>?_) λ_=>G U W g o r H1 oV ∅ ∅ I ⟨bs,hL,lb,v,bd,hm⟩ (Off.keep (bO f));have b:=b.2;rw[b8,la]at b;exact⟨Y,Y,Y,l,d,bf,x,U,W,g,B,r,t,i,o,bs,1,oV,j,h,by lia,by lia,li,k,by lia,M,I,bd,λe b h k H2 J8 bC w y Zt=>G e b _ h k H2 J8 (by rw[cY];exact fF _) ∅ w ⟨bs,hL,lb,v,y,hm⟩ ((Off.keep (bO f)).trans Zt)⟩
 refine⟨Y,a,ns,1,hS,λl d H1 J b _ _=>?_⟩;intro x b fx H _;refine⟨x,b,1,af,λU t0 H2 _L2 fU b=>⟨1,?_⟩⟩;let s2:=mK fx H b;let S2:=J.same s2
 let bF:∀ a,U a->H1 a=none:=λa z=>by
  rcases fU a z with y|y
  ·rw[y];exact fx
  ·exact mO y
 refine⟨1,λW bf H a6 fW b=>?_⟩
 let L:oR eK cH cT dB H l d bf x U W [[]] [] [[]] [] [] [] (0,⟨jW,t0,[]⟩) []:=by
  refine⟨S2.same b,_L2.same b,1,a6,λa z=>⟨λy=>?_,?_⟩,λa z=>?_⟩
  ·let⟨F,e⟩:=_L2.al z;rw[fW a y]at e;cases e
  ·let n:=J.ne (bF a z);exact⟨n.1.symm,n.2.symm⟩
  ·let n:=S2.ne (fW a z);exact⟨n.1.symm,n.2.symm⟩
 refine⟨Y,Y,Y,l,d,bf,x,_,U,W,1,L,λR W4 H4 n t bP H J li lf bT b _=>?_⟩;let lb:=A6 n;refine⟨iz,λc H=>?_⟩;let h:=ao H (.lst []);let p5:(aO H4 c (.lst [])) c=⇑(.lst (([]:Wp).map V.int)):=af;let n5:=b.new H;let Vv:=b.same h;generalize aO H4 c (.lst [])=H5 at h p5 Vv;refine⟨Y,l,d,9,1,Vv.src,by decide,by decide,λam H6 J v1 H b=>⟨am,1,by lia,by lia,?_⟩⟩;refine oz (lo:=0) (n:=am.toNat) (λab m ak=>∃ T X u7 u8:Option V,m=[⇑↥a,⇑↥l,⇑↥x,⇑↥bf,⇑↥c,T,X,u7,u8]/\wu eK cH cT dB jW l d x bf c ab ak) ⟨none,none,none,none,1,R,W4,yH n,e0 n,bP,t,_,[],[],Vv.mv (bO b) H,(bO b) _ _ p5 n5.2.2.1,n5,by rw[yq];lia,by rw[yq];lia,by lia,by lia,by lia,by show 2<=_;lia,1,mR _,mR _,⟨λ_=>rfl,1⟩,lf.1,(λ_ ⟨_,z,_⟩=>by cases z),lf.2,Vz ∅⟩ ?_ ?_
 ·rintro ab m H6 hj ⟨T,X,u7,u8,rfl,U,W,g,B,r,t,⟨nN,⟨b0,b,fc⟩⟩,o,S,St,hp,v,r1,H,b1,b2,J,b4,eC,b5,b6,a7,M,I,N,gd⟩;obtain rfl:b0=jW:=eC;simp only at b4 b5 a7;let b:ab<8:=by lia
  refine⟨l,d,bf,x,c,Q,E,U,W,g,B,r,t,_,o,Y,St,by lia,by lia,by lia,by lia,by show nN<=800;lia,M,I,N,λb H J i a8 H7 oV N ak am lm a9 M b7=>?_⟩;let N:∀ y,In o y->0<=y/\y<(↑i:Nat):=λy hy=>by have:=I y hy;lia
  refine⟨Y,Y,Y,l,d,bf,x,b,W,H,B,J,i,_,o,1,oV,r1,by lia,by lia,by lia,gd.more ∅,λb H I j EL J J8 ak am bC ba _ Zt=>⟨true,1,fT ?_⟩⟩;refine⟨l,d,bf,x,c,Q,E,b,H,I,j,EL,i,_,o,Y,J8,by lia,by lia,by lia,by lia,by show a8<64;lia,by lia,a9,N,M,λU3 W3 ae k Zv b L H I bb YM ca=>?_⟩;let⟨w,A⟩:=ba.WS;let⟨rk,rb,dn⟩:=id A.sn.rk;let b:=A.ln;let⟨u,p,C,O,q⟩:=id L.wo;let⟨xs,H,b⟩:=id q.hr.at_;let I:=cP.len b;let b:=gu.k (k:=kR) q.hw;rw[show cE (lK u p C O) kR=⇑↥p by kernel_rfl]at b;refine⟨Y,Y,bf,Y,b,p,Y,.inl (bJ.of H),l,d,Y,L.src,by lia,by lia,λs d l H b kA=>?_⟩;let bc:=L.mv (bO kA) b;let⟨d,b⟩:=L.src.lst;let be:=q.fr (λa F e y=>(kA a (L.dw a y).1).trans e) (λa xs e=>(kA a (cS e b)).trans e);let bi:=gu.k (k:=kR) be.hw;rw[show cE (lK u p C O) kR=⇑↥p by kernel_rfl]at bi;obtain⟨f,rfl⟩:∃ f:Nat,s=f:=⟨s.toNat,by lia⟩;let F:qV ↑j ((f:Nat):Int):=⟨by lia,by lia⟩;let bj:=A.sl _ F.1 F.2;let an:=A.Z0 _ F.1 F.2;refine⟨Y,bf,Y,bi,Y,_,p,j,(f:Nat),_,rk,1,be.hr.at_,by lia,A.sn.sd,F.1,F.2,A.sn.ss,A.sn.ln,dn,by have:=rb f;lia,λaw d ho sB b=>?_⟩;let d:=bc.same sB;let bm:=bc.new b;refine⟨Y,Y,W3,bf,aw,i,ae,j,k,w f,1,d.wo,ho,by lia,an,λb sC=>?_⟩;let b:=d.same sC;let⟨bs,hL,d,l,bd,hm⟩:=id YM
  let d:↑k<64:=by
   let⟨H,I,J,L,e,M,N,Zg,Zh,Zi,Bg,DE,ZU,ZV,ZW,ZX,ag,ai,BG,l⟩:=id b.Dp
   have:=EM (g:=bs) l.lG.1 λy hy n=>by
    let⟨l,H⟩:=bb y hy;exact (bd y l H n).2.2.mp hy
   lia
  refine⟨Y,b.Dp.m ⟨Y,U3,x,ae,Zv,i,_,k,j,(f:Nat),w,hL,1,b.Dp,1,by show ↑fc<=900;lia,b.lst,by lia,by lia,by lia,d,F,A.sn,bj,by lia,λa d=>?_,λR n cb A8 sr H bT l f4=>?_⟩⟩
  ·let⟨a0,a1⟩:=an a d;exact⟨a.toNat,_,by lia,nT ∅,hm _ (List.getElem_mem _)⟩
  refine⟨Y,E,1,.inl ⟨V⟩,λd sE=>?_⟩;refine⟨true,1,fT ?_⟩;let⟨bn,_⟩:=b.o0 l (k:=j) (by simp) f4;let ax:=bn.same sE;let b:↑(ae++[j])=↑ae+1:=by rw[cY];rfl
  refine⟨Y,ax.Dp.m ⟨Y,R,x,_,A8,i,_,k,j,(f:Nat),w,1,ax.Dp,ax.lst,by lia,by lia,F,A.sn,bj,an,λd b=>?_⟩⟩;refine⟨Y,E,1,.inl ⟨V⟩,λl d=>⟨true,1,fT ?_⟩⟩;let ay:=sE.trans (b.trans d);let ag:=bn.same ay;let⟨l,b,n,A,aS⟩:=id ag.wo;let d:=gu.k (k:=kR) aS.hw;rw[show cE (lK l b n A) kR=⇑↥b by kernel_rfl]at d;refine⟨Y,Y,bf,Y,d,W3,bf,b,i,ae,j,j,1,ag.wo,by lia,λb d ⟨l,n,e⟩=>?_,λHH cc a2 cd _=>?_⟩
  ·rw[aS.hw]at e;simp only[Option.some.injEq,HO.dK.injEq,lK,List.cons.injEq,Prod.mk.injEq,V.ref.injEq,true_and,and_true]at e;let⟨rfl,rfl,rfl,rfl⟩:=e;exact aS.hr
  let bo:=ag.kept cc (λa y=>(ag.du a y).1) ag.dw a2 cd;let⟨b,d,e⟩:=b7 c _ hp v.1 v.2.1 v.2.2.1;let⟨l,n,A⟩:=Zt c _ b d e v.2.2.1;let⟨d,b,m6⟩:=ca c _ l n A v.2.2.1;let eC:=sC _ _ (sB _ _ ((bO kA) _ _ d v.2.2.1));let a3:=a2 _ _ (ay _ _ (f4.2.1 _ _ eC b)) m6;let bp:¬ R c:=λy=>(f4.1 c y).elim b λz=>by rw[eC]at z;cases z
  let b:=a2 _ _ (ay _ _ (f4.2.1 _ _ (sC _ _ ho) bm.1)) bm.2.1;let⟨ap,br,bt,aq,ar⟩:=id bo.wo;let⟨as,yj,pa⟩:=id ar.hi;let la:=Paired.length pa;let⟨vn,IC,_,bv⟩:=id ar.hv;refine⟨Y,.inl ⟨1,_,bJ.of a3⟩,Y,aw,1,⟨_,bJ.of b⟩,λa4 cO=>gv (K:=bV) (h:=aw) (a:=(w f).map V.int) (λai m H5=>∃ a5:Option V,m=[a5,⇑↥bf]/\H5 a4=⇑(.lst (((fX k ((w f).take ai)).map (qX i)).map V.int))/\aJ HH H5) ⟨none,1,af,ao cO _⟩ (by rintro ai m H5 _ ⟨_,_,_,h⟩;exact bJ.of (h _ _ b)) ?_ ?_⟩
  ·rintro ai y m H5 hi ⟨a5,rfl,h5,h⟩;rw[kB]at hi;let⟨a,ea,rfl⟩:=Option.map_eq_some_iff.mp hi;let⟨a0,a1⟩:=an a (mC ea);let st:=take_snoc ea;let bl:=List.length_filter_le (λx=>!Iq k x) ((w f).take ai);rw[gI]at bl;let b:=gu.k (k:=Rt) (h _ _ ar.hw);rw[show cE (lK ap br bt aq) Rt=⇑↥aq by kernel_rfl]at b;exists Y,Y,bf,Y,b,aq,Y,.inl (bJ.of (h _ _ IC)),1,mF vn,Y;rw[if_pos rfl,vC];by_cases cm:a∈vn
   ·rw[if_neg (by simp[cm])];refine⟨Y,?_,h⟩;rw[st,jN,Ao (a:=[a]) λx hx=>by rw[List.mem_singleton.mp hx];exact (bv a).mp cm,ir];exact h5
   ·rw[if_pos (by simp[cm])];let zi:=gu.k (k:=kI) (h _ _ ar.hw);rw[show cE (lK ap br bt aq) kI=⇑↥ap by kernel_rfl]at zi;obtain⟨tt,b⟩:∃ tt,as[a.toNat]?=⇑tt:=⟨_,nT ∅⟩;let⟨av,ep,ht⟩:=ko pa b;let Fl:=dh (a:=as.map V.ref) (j:=a.toNat) (v:=↥tt) (by rw[kB,b];rfl);rw[show ((a.toNat:Nat):Int)=a by lia]at Fl;refine⟨Y,bf,Y,zi,Y,ap,Q,V,bJ.of (h _ _ yj),Fl,tt,Q,V,dN.of (h _ _ ht),DP,⟨_,h5,?_,Y,?_,bQ cO h (aI a4 _ _)⟩⟩
    ·rw[b8,b8];unfold fX;exact aQ ∅
    ·rw[af,st,jN,rN (a:=[a]) λx hx=>by rw[List.mem_singleton.mp hx];exact λz=>cm ((bv a).mpr z),gm,gm,List.map_singleton,Mm ep];rfl
  rintro m HI ⟨a5,rfl,a,sI⟩;rw[b8,gQ]at a;let bA:=a7.read sr;let lo:=List.length_filter_le (λx=>!Iq k x) (w f);let b:↑((fX k (w f)).map (qX i))<=200:=by rw[b8];unfold fX;lia
  refine⟨c,a4,Z,sI _ _ a3,a,(by rw[b8,b8];exact gV (aQ ∅)),?_⟩;rw[← gm];generalize (fX k (w f)).map (qX i)=ai at *;let av:=(bo.same sI).off (sI _ _ a3) bp m6 v.2.2.1 v.2.2.2 (aI c HI (.lst ((S++ai).map V.int)));let hJ:(aO HI c (.lst ((S++ai).map V.int))) c=⇑(.lst ((S++ai).map V.int)):=af;generalize aO HI c (.lst ((S++ai).map V.int))=a at av hJ;let b:↑(S++ai)<=200*(ab+1):=by rw[cY];lia
  refine⟨Y,Y,Y,R,W3,bf,x,c,_,j,A8,i,_,k,Y,av.Dp,av.wo,hJ,by lia,by lia,1,bA,λc a=>⟨true,1,fT ⟨Q,Y,⟨R,W3,_,j,A8,i,_,k,_,av.same a,a _ _ hJ,⟨bp,m6,v.2.2⟩,by lia,by lia,by lia,by lia,by lia,by show a8<=2+(ab+1);lia,1,by show ↑(fc++cb)<=_;rw[cY];lia,b,bA,a9,bb,YM.more ∅,ba⟩⟩⟩⟩
 ·rintro m H6 ⟨T,X,u7,u8,rfl,U,W,g,B,r,t,i,o,S,St,_⟩;let⟨u,p,C,O,q⟩:=id St.wo;let⟨b,c,a⟩:=id q.hp;let f:=cP.len a;let a:=gu.k (k:=kP) q.hw;rw[show cE (lK u p C O) kP=⇑↥C by kernel_rfl]at a;let⟨S,p,d,h,e,bl,i,k,l,m,st,n,q,t,u,v,w,y,o,b⟩:=id St.Dp;let j:↑(qW g)=↑g:=b8 _;exact⟨Y,x,d,Y,b.L.hx,1,S,x,d,h,e,bl,i,k,l,m,st,n,qW g,o,r,1,b.L,Y,bf,Y,a,C,Y,.inl (bJ.of c),Z,E,1,.inl ⟨1,by rw[j,f]⟩,λH7 _=>G H7⟩
def all_mk:VS:=by
 intro P w K mg d q;let⟨f,g,h,i,j,k,X,G,b,c,x,y,z,A,B,C,D,H,I,J,L,M,N,O,R,S,T,U,W,FT,m,n,o,p,r,t,u,q7,q8,q9,Cw,ab,ae,ag,ai,ak,am,an,ap,aq,ar,as,av,aw,ax,ay,aA,aH,aS,a0,a1,a2,a3,a4,a5,a6,a7,a8,a9,ba,bb,bc,be,bi,bj,bm,bn,bo,bp,br,bt,bv,bA,bB,bC,bP,bY,b0,b1,b2,b3,b4,b5,b6,b7,ca,cb,cc,cd,ce,cf,cg,ch,ci,cj,cm,cn,cp,cq,cr,cs,cv,cw,cx,cI,cO,c0,c1,c2,c3,c4,c5,c6,c7,c8,da,dc,dd,de,df,di,dq,dr,ds,dv,dx,dy,dA,dC,dE,dL,dS,dU,dV,dW,d0,d1,d2,d3,d4,l,z0,z1,z2,z3,z4,z5,z6,z7,z8,z9,d5,d6,d8,ea,tw,tF,FU,vq,tG⟩:=q;let⟨q,ll,cl,kl⟩:=l;let e:=b.symm.trans (mg_of X G q);cases e;obtain⟨a,F,bF⟩:∃ a,O9 K "law" "law" ML d a/\∀ (s:Shared) (v:Value),BindsTo s a ⟨[v],[]⟩ [("m",v)]:=⟨_,Jc (a:=ML) ll cl kl,λs v=>.of_eq rfl⟩;let⟨l,v⟩:=m.d (ps:=["m"]) X G;let⟨g1,Kl⟩:=n.d (ps:=["b","I"]) X G;let⟨g2,HV⟩:=o.d (ps:=["r"]) X G;let⟨g3,Km⟩:=p.d (ps:=["r","J"]) X G;let⟨g4,Zw⟩:=r.d (ps:=["j"]) X G;let⟨g5,m⟩:=t.d (ps:=["j"]) X G;let⟨g6,BQ⟩:=u.d (ps:=["j","i","o"]) X G;let⟨g7,VA⟩:=q7.d (ps:=["j","i","o"]) X G;let⟨g8,eb⟩:=q8.d (ps:=["j","i","o"]) X G;let⟨g9,Kn⟩:=q9.d (ps:=["j"]) X G;let⟨ec,VB⟩:=Cw.d (ps:=["j"]) X G;let⟨ed,yJ⟩:=ab.d (ps:=["L","i"]) X G;let⟨ab,VC⟩:=ae.d (ps:=["L","t"]) X G;let⟨ae,Ko⟩:=ag.d (ps:=["i","o","L"]) X G;let⟨ag,Sd⟩:=ai.d (ps:=["j","6"]) X G;let⟨ai,n⟩:=ak.d (ps:=["c"]);let⟨ak,HW⟩:=am.d (ps:=["c","j"]);let⟨am,HX⟩:=an.d (ps:=["c","j"]);let⟨an,EO⟩:=ap.d (ps:=["c","t"]);let⟨ap,Kp⟩:=aq.d (ps:=["c"]);let⟨aq,Se⟩:=ar.d (ps:=["l"]) X G;let⟨ar,Zx⟩:=as.d (ps:=["n","G"]) X G;let⟨as,ER⟩:=av.d (ps:=["n","i","goal"]) X G;let⟨av,ee⟩:=aw.d (ps:=["n","g"]) X G;let⟨aw,ES⟩:=ax.d (ps:=["Z","0"]) X G;let⟨ax,Ba⟩:=ay.d (ps:=["n","G"]) X G;let⟨ay,N8⟩:=aA.d (ps:=["Z","A"]) X G;let⟨aA,ET⟩:=aH.d (ps:=["n","G"]) X G;let⟨aH,o⟩:=aS.d (ps:=["n","g"]) X G;let⟨aS,Sg⟩:=a0.d (ps:=["one","6"]) X G;let⟨a0,EU⟩:=a1.d (ps:=["l"]) X G;let⟨a1,Zy⟩:=a2.d (ps:=["j"]) X G;let⟨a2,Zz⟩:=a3.d (ps:=["l","A"]) X G;let⟨a3,Kq⟩:=a4.d (ps:=["l","A","C","others"]) X G;let⟨a4,Kr⟩:=a5.d (ps:=["n","g","C","l"]) X G;let⟨a5,VD⟩:=a6.d (ps:=["l","A","i","o"]) X G;let⟨a6,Ks⟩:=a7.d (ps:=["n","g","i","o"]) X G;let⟨a7,EV⟩:=a8.d (ps:=["n","g","i","o","to"]) X G;let⟨a8,EW⟩:=a9.d (ps:=["n","g"]) X G;let⟨a9,Ku⟩:=ba.d (ps:=["j"]) X G;let⟨ba,HY⟩:=bb.d (ps:=["V"]) X G;let⟨bb,Si⟩:=bc.d (ps:=["state","g","l"]) X G;let⟨bc,p⟩:=be.d (ps:=["c"]);let⟨be,Kv⟩:=bi.d (ps:=["c"]);let⟨bi,HZ⟩:=bj.d (ps:=["c"]);let⟨bj,Ia⟩:=bm.d (ps:=["c","1"]);let⟨bm,uH⟩:=bn.d (ps:=["c","g"]);let⟨bn,sf⟩:=bo.d (ps:=["c","P"]);let⟨bo,xE⟩:=bp.d (ps:=["c","P"]);let⟨bp,Ib⟩:=br.d (ps:=["c"]);let⟨br,Kw⟩:=bt.d (ps:=["c","g"]);let⟨bt,q⟩:=bv.d (ps:=["c"]);let⟨bv,r⟩:=bA.d (ps:=["c"]);let⟨bA,N9⟩:=bB.d (ps:=["c","q"]);let⟨bB,Oa⟩:=bC.d (ps:=["c","q","many"]);let⟨bC,Ic⟩:=bP.d (ps:=["c"]);let⟨bP,t⟩:=bY.d (ps:=["c"]);let⟨bY,Kx⟩:=b0.d (ps:=["c"]);let⟨b0,Ky⟩:=b1.d (ps:=["c","q","text"]);let⟨b1,Ie⟩:=b2.d (ps:=["c","j"]);let⟨b2,EX⟩:=b3.d (ps:=["n","g"]) X G;let⟨b3,u⟩:=b4.d (ps:=["c"]);let⟨b4,Bb⟩:=b5.d (ps:=["c","V","1"]);let⟨b5,yK⟩:=b6.d (ps:=["c","V","g","l"]);let⟨b6,BR⟩:=b7.d (ps:=["c"]);let⟨b7,Bc⟩:=ca.d (ps:=["c","V","l"]);let⟨ca,Bd⟩:=cb.d (ps:=["c"]);let⟨cb,EY⟩:=cc.d (ps:=["c"]);let⟨cc,sj⟩:=cd.d (ps:=["c","j"]);let⟨cd,BS⟩:=ce.d (ps:=["c","q","text"]);let⟨ce,EZ⟩:=cf.d (ps:=["c","g","C","j"]);let⟨cf,Be⟩:=cg.d (ps:=["c","g"]);let⟨cg,E2⟩:=ch.d (ps:=["c","g","i","o"]);let⟨ch,Bf⟩:=ci.d (ps:=["c","7","C","8","i","o"]);let⟨ci,E3⟩:=cj.d (ps:=["c","g"]);let⟨cj,yL⟩:=cm.d (ps:=["c","7","C","8"]);let⟨cm,E4⟩:=cn.d (ps:=["c","g"]);let⟨cn,BU⟩:=cp.d (ps:=["c","g","i","o","to"]);let⟨cp,su⟩:=cq.d (ps:=["c","t"]);let⟨cq,Kz⟩:=cr.d (ps:=["c","t"]);let⟨cr,KA⟩:=cs.d (ps:=["c","t"]);let⟨cs,yM⟩:=cv.d (ps:=["c","j","veil"]);let⟨cv,BV⟩:=cw.d (ps:=["c","g"]);let⟨cw,E6⟩:=cx.d (ps:=["c"]);let⟨cx,E7⟩:=cI.d (ps:=["c","q"]);let⟨cI,uI⟩:=cO.d (ps:=["c","q","j"]);let⟨cO,BW⟩:=c0.d (ps:=["c","q","j"]);let⟨c0,BX⟩:=c1.d (ps:=["c","q","j"]);let⟨c1,yN⟩:=c2.d (ps:=["c"]);let⟨c2,uJ⟩:=c3.d (ps:=["c","j"]);let⟨c3,BY⟩:=c4.d (ps:=["c","g"]);let⟨c4,E8⟩:=c5.d (ps:=["c","q"]);let⟨c5,BZ⟩:=c6.d (ps:=["c"]);let⟨c6,KC⟩:=c7.d (ps:=["b","2"]) X G;let⟨c7,KD⟩:=c8.d (ps:=["b","M"]) X G;let⟨c8,Ig⟩:=da.d (ps:=[]) X G;let⟨da,KG⟩:=dc.d (ps:=["a","d"]) X G;let⟨dc,KH⟩:=dd.d (ps:=["d","e","_law_entries"]) X G;let⟨dd,Ih⟩:=de.d (ps:=["9"]) X G;let⟨de,KI⟩:=df.d (ps:=["d","e"]) X G;let⟨df,B3⟩:=di.d (ps:=["d","e"]) X G;let⟨di,E9⟩:=dq.d (ps:=["d","w"]) X G;let⟨dq,Ob⟩:=dr.d (ps:=["d","e","W","_law_new"]) X G;let⟨dr,Oc⟩:=ds.d (ps:=["d","e","x","T"]) X G;let⟨ds,B4⟩:=dv.d (ps:=["d","e"]) X G;let⟨dv,Fb⟩:=dx.d (ps:=["k"]) X G;let⟨dx,KJ⟩:=dy.d (ps:=["d","e"]) X G;let⟨dy,Ii⟩:=dA.d (ps:=["a","p"]) X G;let⟨dA,Ca⟩:=dC.d (ps:=["c","g","P"]);let⟨dC,KL⟩:=dE.d (ps:=["f","p"]) X G;let⟨dE,Cb⟩:=dL.d (ps:=["b","a"]) X G;let⟨dL,Cc⟩:=dS.d (ps:=["b","e","_law_room"]) X G;let⟨dS,KN⟩:=dU.d (ps:=["b","a"]) X G;let⟨dU,KO⟩:=dV.d (ps:=["b","a","f"]) X G;let⟨dV,KP⟩:=dW.d (ps:=["b","a","f"]) X G;let⟨dW,Ij⟩:=d0.d (ps:=["a","f"]) X G;let⟨d0,Ik⟩:=d1.d (ps:=["b","a","f"]) X G;let⟨d1,KQ⟩:=d2.d (ps:=["a","k"]) X G;let⟨d2,KR⟩:=d3.d (ps:=["b","a","f"]) X G;let⟨d3,xF⟩:=d4.d (ps:=["a","f","N"]) X G;let d4:ka mg:=⟨PySem.W.mg_none_of X G z0,v9 X G z1,v9 X G z2,v9 X G z3,v9 X G z4,v9 X G z5,v9 X G z6,v9 X G z7,v9 X G z8,v9 X G z9,v9 X G d5,v9 X G d6,v9 X G d8,v9 X G ea,λb e=>(m.m).symm.trans e ▸ mg_of X G vq,λb e=>(o.m).symm.trans e ▸ mg_of X G tG⟩;let e:kb mg:=⟨⟨_,mg_of X G tw⟩,⟨_,mg_of X G tF⟩,⟨_,mg_of X G FU⟩⟩;let dF:=c.d X G p.mt;let iy:=z.d X G t.mt;let z:=D.d X G n.mt;let C3:=I.d X G q.mt;let I:=M.d X G r.mt;let M:=O.d X G u.mt;obtain⟨b,c,D⟩:∃ b c,Ds K mg b c k f g h i j:=⟨gL [_,_,_,_,_,_,_,_,_,_,_,_,_,_,_,_,_,_,_,_,_,_,_,_,_,_,_,_,_,_,_,_,_,_,_,_,_,_,_,_,_,_,_,_,_,_,_,_,_,_,_,_,_,_,_,_,_,_,_,_,_,_,_,_,_,_,_,_,_,_,_,_,_,_,_,_,_,_,_,_,_,_,_,_,_,_,_,_,_,_,_,_,_,_,_,_,_,_,_,_,_,_,_,_,_,_,_,_,_,_,_,_,_,_,_,_,_,_,_,_] 0,gL [l,g1,g2,g3,g4,g5,g6,g7,g8,g9,ec,ed,ab,ae,ag,ai,ak,am,an,ap,aq,ar,as,av,aw,ax,ay,aA,aH,aS,a0,a1,a2,a3,a4,a5,a6,a7,a8,a9,ba,bb,bc,be,bi,bj,bm,bn,bo,bp,br,bt,bv,bA,bB,bC,bP,bY,b0,b1,b2,b3,b4,b5,b6,b7,ca,cb,cc,cd,ce,cf,cg,ch,ci,cj,cm,cn,cp,cq,cr,cs,cv,cw,cx,cI,cO,c0,c1,c2,c3,c4,c5,c6,c7,c8,da,dc,dd,de,df,di,dq,dr,ds,dv,dx,dy,dA,dC,dE,dL,dS,dU,dV,dW,d0,d1,d2,d3] l,d4,e,M,dF,iy,z,C3,I,x,y,A,B,C,H,J,L,N,R,S,T,U,W,FT,v,Kl,HV,Km,Zw,m,BQ,VA,eb,Kn,VB,yJ,VC,Ko,Sd,n,HW,HX,EO,Kp,Se,Zx,ER,ee,ES,Ba,N8,ET,o,Sg,EU,Zy,Zz,Kq,Kr,VD,Ks,EV,EW,Ku,HY,Si,p,Kv,HZ,Ia,uH,sf,xE,Ib,Kw,q,r,N9,Oa,Ic,t,Kx,Ky,Ie,EX,u,Bb,yK,BR,Bc,Bd,EY,sj,BS,EZ,Be,E2,Bf,E3,yL,E4,BU,su,Kz,KA,yM,BV,E6,E7,uI,BW,BX,yN,uJ,BY,E8,BZ,KC,KD,Ig,KG,KH,Ih,KI,B3,E9,Ob,Oc,B4,Fb,KJ,Ii,Ca,KL,Cb,Cc,KN,KO,KP,Ij,Ik,KQ,KR,xF⟩;refine⟨a,bF,λzt _ _=>?_⟩;refine vr (λD F=>?_) ⟨P,w,K,mg,zt,b,c,k,f,g,h,i,j,d,a⟩ D F;let h:=Sb;unfold bS cX bf bV cW cV dQ dR eK cH cT dB yv jW YD YE at h;exact h D F
end
end _gE
theorem PySem.Challenge.cw_inkroot_k56_whole_dues_holds : PySem.Challenge.rw_inkroot_k56_whole_dues.Holds :=
 InkHd.hd2 _gE.all_mk
