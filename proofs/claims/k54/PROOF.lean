import PyProof.Rows.All
import KE.KIntText
import KE.KTryMore
import KE.KDictLaws
import KE.KItem
import Open.Pieces
import KE.RegKTryMore
import OpenK.KOwn
import Lean
import PyProof.EqAt
import PyProof.EqKinds
import PyProof.TupleCall
import PySem.Challenge.RW_inkroot_k54_words_found
set_option compiler.extract_closed false
set_option Elab.async false
set_option linter.all false
set_option maxRecDepth 100000
set_option maxHeartbeats 4000000
abbrev gZ:=List (List (List Int))
abbrev dB:=List (List Int)
abbrev iD:=List (List Nat)
abbrev gG:=List (Int × Nat)
abbrev Ku:List PySem.Str:=["self"]
abbrev Yr:List PySem.Str:=["self","sheet"]
abbrev zl2:List PySem.Str:=["self","hand","row"]
abbrev zl3:List PySem.Str:=["row","start","stop"]
abbrev zl4:List PySem.Str:=["rows","sheet"]
abbrev zl5:List PySem.Str:=["_law_rows","_law_sheet"]
abbrev zl6:List PySem.Str:=["_law_src_here","_law_world_here"]
abbrev zl7:List PySem.Str:=["_law_src_here","_law_world_here","_law_house"]
abbrev cC:=@List.length_map.{0,0}
abbrev dh:=@List.length_append.{0}
abbrev gP:=@List.map_append.{0,0}
abbrev fH:=@Nat.le_refl
abbrev mS:=@List.getElem?_eq_getElem.{0}
abbrev kY:=@List.mem_cons_of_mem.{0}
abbrev lK:=@List.mem_of_getElem?.{0}
abbrev n8:=@PySem.F.plainAttrs_list
abbrev lT:=@Bool.false_ne_true
abbrev nC:=@List.length_singleton.{0}
abbrev fK:=@List.getElem?_map.{0,0}
abbrev fE:=@List.length_cons.{0}
abbrev gm:=@List.length_take.{0}
abbrev jt:=@PySem.F.slot_list_append
abbrev ju:=@PySem.F.type_list_append
abbrev gU:=@List.take_length.{0}
abbrev iB:=@List.size_toArray.{0}
abbrev gV:=@List.append_nil.{0}
abbrev gn:=@Nat.le_of_lt
abbrev kj:=@List.concat_eq_append.{0}
abbrev jb:=@List.flatMap_cons.{0,0}
abbrev l6:=@List.eq_nil_or_concat.{0}
abbrev lN:=@List.getLast?_concat.{0}
abbrev iC:=@Nat.le_trans
abbrev ko:=@List.append_assoc.{0}
abbrev nE:=@List.mem_append_right.{0}
abbrev jV:=@List.foldl_cons.{0,0}
abbrev n9:=@List.mem_append_left.{0}
abbrev jv:=@List.map_cons.{0,0}
abbrev pO:=@List.take_of_length_le.{0}
abbrev l9:=@List.length_drop.{0}
abbrev jN:=@Nat.ne_of_lt
abbrev xj:=@PyProof.Rows.boot_isinstance
abbrev tM:=@PyProof.Rows.boot_list
abbrev pP:=@Nat.lt_of_lt_of_le
abbrev rY:=@List.mem_cons_self.{0}
abbrev xm:=@List.drop_of_length_le.{0}
abbrev pQ:=@Option.some.inj.{0}
abbrev pR:=@List.length_nil.{0}
abbrev xo:=@List.length_replicate.{0}
abbrev xq:=@List.mem_of_mem_take.{0}
abbrev uZ:=@PySem.W.mg_none_of
noncomputable section
namespace PySem.W.Fast
local macro_rules |`(universe $i*)=>do return Lean.mkNullNode (←i.mapM fun x=>`(theorem $(Lean.mkIdent (.mkSimple s!"tw{((x.getId.toString.drop 1).foldl (fun n c=>n*62+(c.toNat-(if c≤'9' then 48 else if c≤'Z' then 55 else 61))) 0)}")):ident :True:=⟨⟩))
universe aDOkTwTaipcC aEAFK8zG3FGt aBsKIBEcNLRH a2YoovgxwBie aegfbKDslkE a8NJnOYr9Duy aCDG6PMNqsB6 aAN6Dxu401O0 aAps594NS0cM a3c74MSmyJ0l aAUGeXFozvDu aJvRBOn4KZov a3EuW7GF5SEy a26uEJ4oBFWl aCIwrhHf4ytY a2vTKt9SYRqr aFC9sXtq6uSg aAIZ8nlbyoGn a6U2gSehCzRU a5OUyWvG5l3A aGC0f8ieQdoW a4ZZSlKsPZ0G aKgBA4Q8Q6Ye a2h5TQjB7moX aKqmlGwGxYUT a4p1BVgGECPb aBcmU1tf7Z1V a8a1QsdOjBYB aF2xmvZTUFX a4T0rbgVcRUC aBtBzvjAB4Il a5UOZi4P91hW a873lWxbSJjC aERK71MaHgIr aBww0ky0an75 aVM6RhHpQiy aAbCAinfw2J a4L1kVJMT5F aH7wj1D9OOsQ a3L4KPDtfvFh a74CCul0fwI7 a7MebFx6GoRl aLjgLXoaHFVo aINJVEWM2OQ0 a54PXdl9eVbh aF7f5RuxkiKd aC3wVfWCdZjR aGECjDLNiiI2 aH5lJ6UXr107 a3ZKu3zgLqkh aHy3ARzoG4TY aD4ZYrUmDWE9 aBWAYLOY9hOT a9zdFGcQkyMS aL2D4xVT6VyZ aJ1Agbp1Y3qI aGXOh4zCt8iH aCnHBhboQSAf a2Jp9e8pbJmy a8ZJYEUzsL3x aQA1XBVdbS0 aEyOXLLnhTgM aBXqYKiK2lYb a2ipRHLerBtq aGTPoh0pcNDX asX41Mxihq0 axDwMbIwgUJ aLBNi4PVrsP7 a7n31bOH1rvs aHDea1rRKaIN aKikrmYP5Rxa aBeul8DRiYJp aLKIGghOBhUn aJCpBAuWt0ko a4uSrIOXfZiF aAtAvsMWM5av a4yqTdB0FqIb aJZZKmkE1dUr a8vuN7cOUob3 aKCFDvtgrZMd aJ7ygCDGnUn5 aFjQJta148Jo a8637El7GUPK aIiygrHgkHbs a8CaZ5qVI9cg aAYMKMUCdHqd aDc947zR4XB1 aK3d5bc5bSCU aCMs9w3qjKT1 a981aZWwNzHA a3m20QudaqS aHBSEam46LBt aDIfQO2XM4Kd aFRAh8sYalNF a489sjltU8eR a5RPniPfQEEC aDqHW9V3MGjd aCeWWbqwAwy2 aJPacsq3arkg aD7oByWOnK1w a4HVR6fnNeeu aFWNi8djdo9q aIHQdT1yd2zl aALEB9CNWtZr aFLs93gx2REO a52d6NmloNUK a1BOo6Bnucjw aBvkI49mF5my aE2YNCIzcJVA a3AXTDF6Yr1O aHIfxrSj7rWB aFGcwOb7oOoJ aBIASj1qKI7x a6fLH1FH486V a8YflRTAajn3 aEI3Uwjicvsx a1CgbICoTEKi a8wEqU9mqHbW aLI47Tr0HgHF aImkaCCWIZwR aLeN7GSVCaAZ aGiNbHNpqPkp aDGu6z13Eqsr aKFz0ENi6dOP a4a9U8RgGerf a8Y5jcL6vZSt aAOQuIiotfZj aFOZjrB0M7ZZ aKQQGswenGhg aBVfXHvf32t9 aE5oHSO2TVTe a34SAsv1eDgr aK5wPjjiDqkM aAdSdqP2UB0k a1yKWqb0CboL a7FiQ6gHVjfo aEJhAFPDp4f6 a2fpaYyYfb8J aGUVmDenYWcs a7yjONQzJvUx aFntztOf6Sjt aLGOab4sVJg3 aHTZnUPKLAjG a1AVDSZXot1J a4PHX4DHp0zn aJbzWnGzqxDV aDhZTMP0y4qL aLTYdMI05yM3 aB5f3mO73nEw a8QUr7yp6cap aKcoYTZiAPBH aC4smyCezhxP a3HKIdAqeCCu a2H7Z6fzus7Y aGfwlkspUCWo aBjeL9VxaG3v aIqGxnflZGXr aNC4UAZaNiA aKUTfa07j9qi aKvxfWURFwnN aHfdbmeupuWb a8q4xQX9CUq9 a7NLnjZOSw5Z a3HC6SduUie1 a5XzBpGQk5cf a6vxEbzvhIi a3bqH8HLeFri a4cdGSOM60a aEMCaDgoSvvW a2sZDy4Ut3hi aINIc6Camt2I a1pLmjcYWVJ8 aGEzPCxR7BPz aDvbbHLumCCw aLptFymh5KlE aEQkMtOPSF0u aIW3VFgd8J6V aKnwklUxMXrN aKZlranKXipV a8WpyoZSb8Je a64yF7WKCMS5 aBigIJiph2nt aLgrhmvqvTnv a2bxwPmGShsK aCBoiMWvFK7Y a6jaAvFNxLN7 aKdqQZWRNXk6 aqyNateEkxn a1iJPLmt4ArC aGYe5LAma5CB aL4Ob1qxOUqb aE60Ftyr4ta9 aDgSBlduOL4d aESBXuOzHkon a7LyzTCRC35O aA3XY2jVg4N5 aHvDwalHWH1p aI0F3Cj6q2ry a29gml9nZcEE a1uAyqYsCU8D a86uCbHopKV7 aIQn6i4I5OOf a9q1aI7SPi3W aKmj6UXR2Lij a3gnbESrFoo2 aLiB34oyimbL a9iVhf3sMPfM aEb9cN22bEjT aIHVEgTQ6Qox aEkDdcDW4Xtg a7XFCTzo9du1 a6FMcYHl1f6q aBH6S6JYfXYs a43AeQGo6uTD a2p3ClESlYw7 a4cvgqGnl5JK aE5AJJDoBmz3 aEbzZ5Sg9nhB a6SxinuXbhfX aIMWBqOyP9LC a1WJgssrv1sT aFFx9SLxLD3 a7wFHnNYVvis aB1NMPQV6zOs aFO60IlqK3fj a11NaXJBHCNV a3FF67uXtg6B aLogpzZXsoeG aL2Gvt7KEicy a90CHvWkL9Fu a7LXoyc9JP2G aHcWCl10q59M aHQ9VUCFtSdW aDx25My6ZQWA aCJpsrOcUtHb aIVe0lJqc4QJ a8k3D8c2Vl7c aC3WrMDo3WQG aIQH3Aouwkzm aGU1YBKiGinS aBUgsZHSUv0T a6OXzDnymVGk aG2JExcVf1mc aIUwyAWNYhaU a94Ka4hG1NKm a9gMqFOme6qn aBxGSrXbXpid aKJFs20Doz2Z a5N06GSAOHV4 a1ceJiZebamX aJIvS5bfSDlE a8kJK8TY2Cyl a2SlNFR6YFpx aFu7RmyYWxff a4grOJTJv8Vl a8FB1EfxYvtk aKrvTic5hxmJ a3IjkyaqXM8L aLKPhQrQfIDh aPGP6HLm2Yg a4s1REBgP8QB aCMHXLAlEzae a43dUhM3WfJ2 a3O7zQA7vloq aDa37nKYkoUU aH1MUWFAOgui aOE5cpwR29E aIAyqXMpWwOa aHD0JnmvCKAP aIhbhq0IImXL a9PBhqGQL0fv aLFk6xSlYwS2 a7p5lCgjwsMO a3iEIJNxtdEZ aIFwR1YCWDMA a9no8JdyewEu a98JONg6ncxK a8XE9pcCcTX6 aFKxqGAFkXxr aESOtvMBdaC0 a9ceA1UcoDC9 aKLXuxBnoWgd a2wrsBQPIjkT a2YXaKKwoLhC aD5ZQTPq508B a55heilFJEJ8 a3zs9f6ZO98K a61gmfo0neio a8Q03JsmP1SG aCBdSzn3ksJm a7pRDT3J8pQW a75C8Q9gzzrA a4Fg4WkeEnlT aFNQhnnTRPuY aL3njj2pTUno a3OVqD8JCIXO aAgVVDGZbswN aECb3nCn7037 a4Hiiji8EHTM aBl9hul37i8w aHFWpywNmSen a8O1IF9I24FE aA91ZIrHza1G a87vKvgwXsT4 aLw1RO8ZMDwF aR6hGTjH16t aGyY4eOSSHJ2 a9Qr1PQ0H7IE a2SGmVRVlTN6 a2hzbOryMffU aJpEOOQOTin8 aGGT49K71hxl aWtieIZyhPQ aCEFjpRRnENh aEM41zXqd78c a9e5ihYrA51r aGmdQ7WWQ7wj aEyfROgvJhv2 aHf0yvIzaVs0 aBK8Dyr5myEi a7mDwN6LzXat aL6eUk4RbbIf a9B0AZuOn3FY a8KvIaNv36 a4x2dXaJP9yH a10q19zPOaEw aFJmZwP5gJyn aIGFybcHcDVN aJzn2BB8KzAz aHFGoyx9PAwK aF5vlCyoEcw6 aI3hqTWcFzva aFI3uWJfbulq aKNQQwRq1oz5 aBQz8fSwkgjE aL3VrXhy4jnv aBU5YnbEa33q a3OtsvyHoXTA a8MMvdw2QFAv aDTqTCOAnuzd a9wPAaQuPlVh aFxrpypgL6dF a8ClMEot7Tu7 a2tVJwATbtdu a6Ys3P1orotG a3nqMbpUvzmU a4XYkepqeGIa aG3uBU53GGag aGKRrb7QzkjR a8ZewkaFBwJX a89JXRgUOo5p aCcNvNzApDW1 aDQxxmppbApV aLjX0ocyk10B aIexOc5miyUN aA4obIEnIbhS aHf913reQaxo aLlQbWnULeF1 aF0mQGGG5oMq aGpGvrAYp0us aDtVfwiRCar1 aHE5LN3NcLTD a62Z5BmqzZdk aLnHGhPeSgTS aO49ySWjkfU aEc2IukXjmIg aKfpiYulyUET aLxUK7jUUmX9 a33PL8qfltAc aB9xCiiLX5om a1jtyMIFsu52 a5LFyKUbxp7H aHTCiqSi7vDL aChwzQmfI8YS aK2Gioo1yw9h aIZz8TfdsvFC aSdYNg65luX aDQXlrlazhxE aIcW1Ml2Tm06 aBxiH7KJ4y1Y aDalzY22pF0f aHuEUQuTgkGw aBgDNgVoPxHq a1Bqh9994qqm a1dGE8JDRJ3E aGRWsbqZw3kO a2fS6cIWbyli a4T0LrwOMKHN aRwOHgnOWeA aEwjN2UslEJs a1q9vKbOiGoY a8gDQatIHywC a2IIlyiKA3Oq a8Gyh06mgeq4 aHgB1cIUM0N7 a9WiUeUOJ96W a50GPRLg4A25 a1KxYKuAw53y aBY2OazD2KdH alYAVyRKmVy a43HfbEUizGE aApWDecmwf7D a2noROsmj7xN aLwh9MxgC8DE a9Gjvg65FyGe aFRqwUoEsgHR aE3J1BOo5yfc aAmpvt3AB5HN aKvxa01LwU7w a50IgrI30DAg a1H9aQqUAygb aDTBrL0SQlMS aAQpIMBZSHgO aBtvdiYIOvA4 aFOat81W5DcB aCvQmQ6IjYQN aKtMYirZST9N aCeUF2FVpGx5 aJCCh7fTW1Qj a9CDY23KRmrf a79zsXh7o3OV aB9Pu5Pv8Cmw a5ncY4zSH7tf aG8PQUHuf1Tt aKCPM6wKe2nD a3gmRPZohp2d aGVgYquEzRW9 a6UFqLHOGdAw aKxjvOoOubrf aIr9OaaDh6Jv aAORUKYRzbwN a5CVGXNjDZLP aL4cbvvr8U2V a8TK6ZdTpwsK a2xB4us3ucQM aF8PlmpQP3Vy a7DlPYr3Dsr9 a1yoktjx4tEi aCyXxbd4j12A aGFHjdqchaAY aCFQEZtBM8xx a78RL9m2GKEp a7Vnc3QQQVby a5K2V0FncZyH aE8noKqzh4I0 a1H4VVw5jv2Y aAwxMyc6HTw0 aKCXK1WGTAuJ aAGBxLNnhwuH aBYiuzwDLdZk ac700378Kcx a9F9c4wBQ6Ss a2IftwOaKc7x a2ypc8cLwZPX aGksWXMEq4Ms aBQbXczcv2kS a9lB0mMtCzhF aB6M1wDIDcje aIrZ75a7aCKr aJfk4rRHut11 a6ONQheBu40b a4k2Fhfm0Er4 a2s7aaJyPyIm aClDBuAF85kF aIxnEyjUIcvW aAul7LMx8V4E aBH46hqNeLy6 a7pXcyqZ4Tvw aBzX4tQQtpOn a2IqroWXK8xK aCIZJNBLcGFK aDKEwislWff9 aCFLANdJ3H7N a5hNRx4V4E2l aLxBjM6jfw5T a6EZu0PNiIoP a7x2lj6h2dF8 aHftlI9Ix8SU aId7TnfxlLDl aL6rieNk465O aLJ4ANCNICUg aFaRMszlBSM1 a1gaOm1LpnDX a2JmDYWXqROP aLpz1wtKFQv9 aGkAZ8ibLPxP aGfAaoebfKOe aHnkzWFcpqW3 aAXZJPlqn1Lj a2xyVdVQt72p aH3pf7f4q506 aD1WL5voA92g aBjLfvVmLusZ aAMdr5B4Shgt aF98JuzHi5mR aIxi8QhOqXmt aH48chps9QvR a8ZxDFUNtVkq aDLlGZQLasMZ aBhgweeuwgil a1QKy9TbzqDo a5RzXpMIcUtp aBTkVNE7oYvv a9TsFHaWe4CM aF0M7bNjlbT1 a2ZcTDb6m2s4 aDJyXW0uFeua a8dRge7TuZnB aKvisRH28hfY a17hDvcAIjLZ a6U2JZ41GHFv aIevNspm6Oat aL0HLE847Sgn aLNECevmTNUV aGuZl8sZoBqp aAgzcT4cMBaF aEKK0VbXHrp8 aCjM2QU2VASd aHHtVW9NtE4w aKb7YVWbTOcX a8kL1G2W3JL2 a3XzPiTNL8MA a1Kvr4UDB4Qo aBJ5eJc4HHC aDP03o9x8LnK a1StM96fAK0Q at9khW0T2sN aH7j1KwxtMRM a1WQPnBrk0yq a70W2ImIQFKn aE2pNB8QrH7F a1HRUUsqVk2F a6qIjm1aYe8d aDWAUEhVk0w aEeSG1gunc2s aJzWrdoyXrUt aB5iy0GKSD02 a5QyCi0cNLwp aJ2Gf8Pj5XHb aL7AU9p2F7YH a3Hgek2DJZBS a6qCQt9l3ZZq a2bM4MWXu9bt aJuJU9zb9xkg a2IUZZmvgQfu a3SbJiFQs38r a2h5XJRUlPmB a22RwWca2paM a2qk1JoOa3EK a1ZDdx0eCOtA a6EQ4Kp4ysVU a5uPo3ZePaS a8flJ1ZvdYhv aLBh0y0tIlMk aKAdf875AW6L a4wfnhJYMr4M a1osqxqFdyP aIFOcF7umglq a3h7jsAmbUdc a5Kp0AZfWone aJ9YA8H7lXqH aF4EGnbaCsHT aBtp3BgLF5Qf aHDRmhYb9JOn aA9TjJ4Vuwhj acSaWN9Z677 aD4smLJWY9st aG6NndS8k06s aLin43aBRj9x a4PJXIwFmEuY aHSj5nqtzN9 aLFHGNjlgFnw a4W3gWv38GBD aGHMPf2tPAJ4 a4bD1BVKbzky a5F3wLNXwXvE aLqwpBWjQwp2 aD6YSpurKNLj a2zSEx8LFuUv a2LdJTuvdyN6 aOaMp71lKL9 aHB16eRVavhO aCIw8IW1dpQN a2Cown6toAzz aGqBwQcjSNxR a3iNAsDViJYg aAWMlJTITkHc aOdg8viqI6L aERZ0ymoDFQM a9mkgMKxP4pj aCP7Tw8OBBd a1rJLXbQPsmo a4MJd3vtPHft a523yT7qNvP7 aCH6YqtDAlVp aEegMJTT6jdb aBBnstOmCxSx a4hCCd7Z0ksC aG4iyXzEOybl a6NB4d4ebApX aH5pURKHvb4R a7s0qG33Iuwx aGcxZluBnAPO aEghoXBdgXm0 a3eDJohJuoIW aEMavAixcRqs a5jma1s1TYSS aEPMofXROFvG aADhZv1jjMQC a2qdgcYiAgGN a26OCX8zJZvA a50aSvqujUM5 a84ofu59vKDZ aGpyMGkBGSxt aHTj5JUA0j3w aFajKYO3rt5f a1zpZZDtxMIh a7ltoJYsU8vN a5S5rK6vciX1 aFANyuXRig7W aB6bvwHlvzot a5W6T6CvRsxW aBcTeLP2Q8y9 anwCRoqmVcY aClwhDAZ8gRA aCGEIlKaaOIi a4Hf5wlm8mAg a3js6laXdvwp aHpklj1GXdyE aJxTUmgMBvQV a4xFuBbAD1x6 a2C76tBiTcPj a62jdbpbkR4z aIzRFwjQmDRg a7j0GbWzpsqH aELoAhVvQc4d aB9b1EdGAybW aE4suXhJExUz a65pAFENJKbH a80QJZWLe0yx aCABBAswhWAK a4T8hSCcXmTF aBw30k7IIkgx a8DVFWqhAOxa a2md66mIIG7M aAUx3gLMBPcn a2pk6jZGUA6q aHI8M1zEoyHz aJpOforFK1xI aIAiqnxMIdeH aA2FBupv1Tth a3pV703EK28Z ar7ytk7wTUy aEJLt54NwC6L aHl3pvXS8dVZ a7PBYxR9Z8u aI3TUtsNIKII ai2a8CycvG7 aEHiNK2MQUQy aJQ9mgLzWzNN a7gpkMB001Eq a45lARRGm2Ki aC4QcZ0kiA6R aCHyL8nbcYLl aBO2pCi5uF6Z aH3qBV2E1p92 aBmtEM2VALRq a99TOcA1KTU5 a9xOCu1YOp3S auWRX8oyoxA a7v2qNh2gvbu aLdZBbGlkYQD aByFb5IucC7M aCdtXpm3fJNI aFSln33WcbnY a7boqkfPOugf aKJSEggykF2q a8V8w2igEOyb aIfC1hyPq01g aHc9neyrQU8a aFnHsgaD8FCt aVGuph6JyJQ aJZ2Tx8Znpz5 a754i5lDTbTo aBznbBaL7FSW aD6916TYth8j a96KK1t0DsV3 aE28Wuc7aXLx aCefqCvtkrFO aKqwVMt7xPV7 a98fLq1Yephq a3Vc06jnAlOI aLyJ1DPQ79lB a1AL5jLi2BsW aeONm93p5GW aD2gmxXG6dmS a5H3GUcZaHcd a2eeVJVilmM5 aIyqVzEZ0k3j aJULqU6sAWyc aHV5O57EuXtA aDLyBkdfcQqz aAuARJyuPuWk aHRXg1FEAo4r aK5wxsnjStZZ aJ9R67w6iqN4 aEKSUomAPV8V aDLUyGivTjMf aC5yCNhKYhv0 a9DHLgTVhOZE a7jOis8rm0a4 a8XGoDugLBsI aKS3BbdYkOsC aFGnrIDl5cMg a23zxglsRzbQ aCswlOOXXOSB aLu16ySnNpQ aBjXDTfLnZ8g a3YdlLmbMosZ aLuaiMccjMkU a3YWyQVnrhlO a5ra1DA88izI a8evaSj0vTYn a6ntqeU8ZrrS aGMIMGg1MLFw aIRhfen3LVlO aEnM20rjOjgj a4Thl9YLWm5r a8Ia9dbcuvxC a38VTOV8eY2z a6ytqTnaVryB aI4zx2ETrahl a4pixOSAatge a81a5eFa5BoG a1zhO5aBOtqR aFJVH3UQBlP4 a7B0BNWP4sYr aKiLlk1FdwLf aCKJfrDfHs72 a9eD1cvZiBvG aCRLUjJa8Tz4 aIXxx90Azfq3 a4m7lrYxrIoW a2vvceBH6Nki a65Mzz81L5WS a9zjPTbyQplV aBIV6xd6sWp8 aCZO6UTWF4Uh a3nw8HxN6GyY aLCVA3WLwLz0 a9wd01Gklx6r aELg5omKN42O a5fUpxSn04VY a5pn0ulNUAkC aF8f43tvQHzW a6zVGnu7MHmP aDhFvr2QWRBU a1lnsqVNf0SC a9ml3AP94UjW a3FBd49nPyF4 a977NXWz7L79 aEx5IefOED5n a3ne3IyAYwg2 a2OmKPlnt20q aK6IRyD6WdA7 aHNE4ysGDcFy aAG1wO5m0UeW a18nqoFva3Ao aAvN94ZmiReI aDku6XlWDkyj aDseNG4VXunW a9SCrOanlAOh aG7Tt5iCdexd aGwcN08VBDq8 aKDtnwrWzkwz a1weSOf9fQ5N a1heBwpc5Mci aKveSSayatHg aFneMBRXkVZN a73i7p58VyZ3 a7eFtDfBQcVb aAVBEfjSpE1y a73heh3gkgzM aIPvTUNi2fBr aKaFKSptC8DA a8wCkHabx5VF a2D4SLwlOpbV aFpIGlkeKxUW a2AgHKEbm0OP a6p30ESC902x aKFUdIi52Kuz aF2QGLiadxaK a4BX1ehe1kkk aKEWnhU1ngRd aDtFngvD7kWb aJNZ92F7czMT a7zIXQgUbRDv aFGzsTKwa5sU a3KpeCQSZuZD aDVWB23fsGHH aDSEh2hvNSLO aB8hRVvleLTL a2j1eIUCdcDW a976PH7WSPII aawNzecK7Nr a4I19n6cL2ib aCsEeJ5QAtO2 aBCsCaTfX4UU aHZtfyG2usSy a5k3eYF7naKk a52O6L50rL8c aLf96Xx0gOUS aC63OyrSU9HW aEzhmkFVEgOz aASX87f3NORJ aEl6Nfn5v0eJ aL8RBsshSpKx a9vktAQeWTNo a4DcyfGxFfgb aABJhNKAYTio a572XaXObCYw a6HeVioM4sX8 a4mIX2FAHoov aBVPtyweEY3t a6plCrWTPcls akEOuz0LiHn aJTbTmiWqVez a87q82Hj7lPm a4yUJFlXrtEk a7RNH6Hz6r2C aJ2wiuBwJxMT aKhUwuaFtJQq aAlgBIV1M1cE a6fOY4Kl3Yo5 a6IUZMVJZxad aJGFHo5Fshcd aGh225cG1Zux aJHjRSKu70wb aFBZXubPo8XM a5drrHlSryrN a1yoPHbccALd aF7yu0Mx0AK9 a2yfqKdWdAxF a5WExvHRWpHO aGPhGxPgy9D8 a7fAQAkpTtlc aODCU6wInan a9Mse79QFqQd a1ZyVuiPfc5B aBm8g56h3P2M a4htKYAcINuu a9R7jFMSHgnL a469kHzPzqG4 aFCF9qbfQ1YB aHUKqGIx0JZ3 a5TwPb1YEyqd aDmneC8BpYr5 aGQHX7kuQ21C aCieNwiHJr6l aGYNOPPwDbFO aJ8ssRDXSj3h andO0yMKeTd a78tqVAu0gVb aAbTCThscyRk aBx0cdqjHwUX aFiH3sXLN8XM aHv2466eynR6 aLesw20H88bX a5QkOkk0SI1D aKophJBku1T2 aILivKs493GP azwTvGZyAB0 amPScx4xIzz a1a8D61F1siV aKpG2Aicdy4p aJ5BwiNsspDW a8kVUOzBl7ip aHstq0OMafu4 aG48xhMpmZC6 aDuUKDuEoUFa aAU1RW2MUeq2 avX5Cc1mi2I a6FczyrhiJZ aClG1W4f2IDw aBdiNjNfjGEB aHJ6K9VHjmYk aA3o19D0nSgU a55OxF3s44nk a3rm0XgLSsMV aK0EyaUuFvFX aD0dCWokucK1 aHWgZMED6Ox7 auK5hAgatPs aHmCg9kCoOcZ a3pA153g0gEK aAEvXsI3yWLT aIEyg6bK8GNP a939T8uMY9Ct a4gHMw5cWNMJ a7QsZCVGj6c7 aKOd16uSj1Ot a9U33hC8QReg
end PySem.W.Fast
end
namespace InkHd
open PySem PySem.W PyProof.Rows
def fr(o:Obj):=match o.data with|.freed=>none|_=>some o
noncomputable def pk(s:List Obj):Nat→List Nat→List (Option Obj):=s.rec (fun _ _=>[]) fun o _ h i l=>l.rec [] fun a r _=>(i.beq a).rec (h (i+1) l) (fr o::h (i+1) r)
theorem ps:∀(s:List Obj)(i:Nat)(K:Frag),pk s i (K.map (·.1))=K.map (some ·.2)→∀ a b,K.lookup a=some b→∃ n u,a=i+n∧s[n]?=some u∧fr u=some b
|_,_,[],_,_,_=>nofun
|[],_,_::_,e,_,_=>nomatch (id e:[]=_::_)
|o::s,i,(c,d)::K,e,a,b=>by
 have f:((i.beq c).rec (pk s (i+1) (((c,d)::K).map (·.1))) (fr o::pk s (i+1) (K.map (·.1))):List _)=((c,d)::K).map (some ·.2):=e
 have g:(∃ n u,a=i+1+n∧s[n]?=some u∧fr u=some b)→∃ n u,a=i+n∧(o::s)[n]?=some u∧fr u=some b:=fun⟨n,u,h,k⟩=>⟨n+1,u,by rw[h,Nat.add_assoc,Nat.add_comm 1],k⟩
 cases z:i.beq c with
 |false=>rw[z] at f;exact g∘ps s _ _ f a b
 |true=>
  rw[z] at f;injection (id f:fr o::_=some d::_) with p q;intro h;rw[List.lookup_cons] at h;split at h
  next t=>cases h;exact⟨0,o,(eq_of_beq t).trans (Nat.eq_of_beq_eq_true z).symm,rfl,p⟩
  next=>exact g (ps s _ K q a b h)
noncomputable def kF(K:Params→Frag)(l:List Addr)(e:∀P,l=(K P).map (·.1)):Hook where
 α:=List (Option Obj)
 obs s:=pk s.heap.objs.toList 0 l
 val w:=(K w.params).map (some ·.2)
 says:=InK K
 of w s h a o k:=by
  obtain⟨n,⟨_,_,d,_⟩,p,q,r⟩:=ps _ 0 _ (e w.params▸h) a o k
  rw[p,Nat.zero_add];unfold Heap.get?;rw[←Array.getElem?_toList,q];cases d<;>first|exact r|cases r
 keeps:=(kHook K l e).keeps
theorem kIn_of{K:Params→Frag}{e:∀P,l=(K P).map (·.1)}(Y:(kF K l e).says w h):(K w.params).In h:=Y
local macro_rules |`(tactic|o_head ($_:ident $K $l $e))=>`(tactic|o_head (kF $K $l $e : Hook))
set_option maxRecDepth 100000 in
set_option maxHeartbeats 0 in
open_top hd_k54 for PySem.Challenge.rw_inkroot_k54_words_found
end InkHd
noncomputable section
local macro_rules |`(def $d:declId $s:optDeclSig $v:declVal)=>Lean.MonadRef.withRef .missing do if v.raw[1].isOfKind ``Lean.Parser.Term.byTactic then`(theorem $d:declId $(⟨Lean.mkNode ``Lean.Parser.Command.declSig #[s.raw[0],s.raw[1][0]]⟩):declSig $v:declVal)else`(noncomputable def $d:declId $s:optDeclSig $v:declVal)
local macro_rules |`(abbrev $d:declId $s:optDeclSig $v:declVal)=>Lean.MonadRef.withRef .missing do`(noncomputable abbrev $d:declId $s:optDeclSig $v:declVal)
local macro_rules(kind:=Lean.Parser.Command.declaration)|s=>match s.getHeadInfo with|.original ..=>return s.setHeadInfo .none|_=>Lean.Macro.throwUnsupported
set_option hygiene false in
local macro_rules|`(tactic|bv_omega)=>`(tactic|(first|assumption|(show List.Nodup [_];decide +kernel)|(show List.Nodup [_,_];decide +kernel)|(show List.Nodup [_,_,_];decide +kernel)|(show List.Nodup [_,_,_,_];decide +kernel)|(show List.Nodup [_,_,_,_,_];decide +kernel)|(show List.Nodup [_,_,_,_,_,_];decide +kernel)|(show List.Nodup [_,_,_,_,_,_,_];decide +kernel)|(show List.Nodup [_,_,_,_,_,_,_,_];decide +kernel)|(show List.Nodup [_,_,_,_,_,_,_,_,_];decide +kernel)))
set_option hygiene false in
local macro_rules|`(tactic|bv_decide)=>`(tactic|(intro _ _ _ _ _ _;first|exact fe λ_=>rfl|exact fg λ_ _=>rfl|exact ft λ_ _ _=>rfl|exact fu λ_ _ _ _=>rfl|exact fv λ_ _ _ _ _=>rfl|exact gk λ_ _ _ _ _ _=>rfl|exact fb rfl))
set_option hygiene false in
local macro_rules|`(tactic|bv_normalize)=>`(tactic|(first|exact .inl rfl|exact .inr rfl|assumption))
set_option hygiene false in
local macro_rules|`(tactic|ac_nf)=>`(tactic|(first|exact D8 _ (by decide) (by decide)|rfl))
set_option hygiene false in
local macro_rules|`(tactic|ac_rfl)=>`(tactic|(first|exact Or.inl rfl|exact Or.inr rfl))
set_option hygiene false in
local macro_rules|`(tactic|and_intros)=>`(tactic|(first|exact Or.inl rfl|exact Or.inr (Or.inl rfl)|exact Or.inr (Or.inr rfl)))
set_option hygiene false in
local macro_rules|`(tactic|clean_wf)=>`(tactic|(intro _ _ _ _ h;cases h;subst_vars;rfl))
open PySem
open PyProof
open PySem.W (Frag InstAt callWith_K callWith_K0 cellsFrom_some codeIn emptyDict findIn fnOf handedIn hasDictIn instObj isFn kIn_of keepIn kia_one kitOne kitx_dict kitx_list lookIn makesIn methodCall_KW methodObj mg_of mroIn nsIn plainGet plainGet_of plainOver takerIn typeIn)
local macro_rules
|`(⟨$a,*⟩)=>do
 let mut z:=#[]
 let mut c:=false
 for x in a.getElems do
  if x.raw.isNatLit?==some 1 then
   c:=true;z:=z.push (<-`(rfl))
   continue
  match x.raw.getId with
  |`Z=>c:=true;z:=z++#[<-`(_),<-`(_),<-`(rfl),<-`(rfl)]
  |`Y=>c:=true;z:=z++#[<-`(_),<-`(rfl)]
  |`V=>c:=true;z:=z++#[<-`(rfl),<-`(rfl)]
  |`Q=>c:=true;z:=z++#[<-`(_),<-`(_),<-`(_)]
  |`E=>c:=true;z:=z++#[<-`(_),<-`(_)]
  |_=>z:=z.push x
 if c then`(⟨$z,*⟩)else Lean.Macro.throwUnsupported
local macro_rules|`(tactic|exists $a,*)=>`(tactic|refine ⟨$a,*, ?_⟩)
set_option hygiene false in
local macro_rules|`(‹($a,$i,$p,$s)›)=>`(∀D:bW,bq c9 bu bZ cW cU cR $a (d7 $i) (d8 $i) $p $s)
set_option hygiene false in
local macro_rules|`(class inductive $n:declId $b:bracketedBinder* $c:ctor*)=>Lean.MonadRef.withRef .missing do`(inductive $n $b* (vs:List V)(H:Hp)(Q:VK)(E:XK):Prop $c:ctor*)
set_option hygiene false in
local macro_rules|`(tactic|specialize $e)=>`(tactic|refine $e λdF A zn s0 H vs Q E hr _ h=>?_)
local macro_rules|`(nofun)=>`(by decide +kernel)
local macro_rules|`(∅)=>`(by lia)
local macro_rules|`(↑$x)=>`(($x).length)
local macro_rules|`(⇑$x)=>`(some $x)
local macro_rules|`(↥$x)=>`(.ref $x)
local macro_rules|`(tactic|let $p:term:=$e)=>do
 let rec go:Nat->Lean.Term->Lean.MacroM (Lean.TSyntax `rcasesPat)
  |0,_=>Lean.Macro.throwUnsupported
  |n+1,t=>do match t with
   |`(⟨$a,*⟩)=>
    let b←a.getElems.mapM fun x=>do`(Lean.Parser.Tactic.rcasesPatLo|$(←go n x):rcasesPat)
    `(rcasesPat|⟨$b,*⟩)
   |`(_)=>`(rcasesPat|_)
   |_=>`(rcasesPat|$(⟨t.raw⟩):ident)
 `(tactic|obtain $(←go 9 p):rcasesPat:=$e)
set_option hygiene false in
local macro_rules|`(#[$a,*])=>do
 if a.getElems.isEmpty then Lean.Macro.throwUnsupported
 let mut z<-`(ah)
 for x in a.getElems.reverse do z<-if x.raw.isOfKind `num then`(aa (pv $x) $z)else`(aa $x $z)
 return z
set_option hygiene false in
local macro_rules|`(#v[$a,*])=>do
 let e:=a.getElems
 let mut z<-`(ay $(e.back!))
 for x in e.pop.reverse do z<-`(aj $x $z)
 return z
local macro_rules|`(tactic|let $d:letDecl)=>if d.raw[0].isOfKind ``Lean.Parser.Term.letIdDecl then`(tactic|have $d:letDecl)else Lean.Macro.throwUnsupported
abbrev ZB:=Value->Shared->Prop
abbrev Y2:=Int->List Int
abbrev Y1:=Addr->Prop
abbrev Ya:=Str->Option Value
abbrev X2:=Result->Shared->Prop
abbrev X1:=Array Rows.Keyed
abbrev XB:=Option Value
abbrev Xt:=Array Value
abbrev WP:=List Value
abbrev WF:=List Addr
abbrev Wp:=List Int
abbrev UV:=List Str
namespace _L2
open Spec Rows
abbrev fR:=Sum Int Str
def xZ:fR->Value->Bool
 | .inl k,v=>Value.isInt k v
 | .inr x,v=>Value.isStrOf x v
def kv(w:World):fR->Int
 | .inl k=>hashInt k
 | .inr x=>hashStr w x
theorem fT:∀ {k:fR} {v:Value},xZ k v=true->(∃ i t,k=Sum.inl i/\v=Value.int i t)\/(∃ x t,k=Sum.inr x/\v=Value.str x t)
 | .inl i,v,h=>by
  let⟨t,e⟩:=Value.isInt_shape (k:=i) (v:=v) h;exact .inl ⟨i,t,1,e⟩
 | .inr x,v,h=>by
  let⟨t,e⟩:=Value.isStrOf_shape (x:=x) (v:=v) h;exact .inr ⟨x,t,1,e⟩
def Kv(i:Int)(t:Tok):xZ (.inl i) (.int i t)=true:=by simp[xZ,Value.isInt]
def Kw(x:Str)(t:Tok):xZ (.inr x) (.str x t)=true:=by simp[xZ,Value.isStrOf]
def U8(a b:Int):decide ((Sum.inl a:fR)=Sum.inl b)=(a == b):=by
 by_cases e:a=b
 ·subst e;simp
 ·let h:¬ (Sum.inl a:fR)=Sum.inl b:=λq=>e (Sum.inl.inj q);rw[decide_eq_false h];exact (beq_eq_false_iff_ne.mpr e).symm
def U9(a b:Str):decide ((Sum.inr a:fR)=Sum.inr b)=decide (a=b):=by
 by_cases e:a=b
 ·subst e;simp
 ·let h:¬ (Sum.inr a:fR)=Sum.inr b:=λq=>e (Sum.inr.inj q);rw[decide_eq_false h,decide_eq_false e]
theorem Va(a:Int)(b:Str):decide ((Sum.inl a:fR)=Sum.inr b)=false:=decide_eq_false (λq=>nomatch q)
theorem Vb(a:Str)(b:Int):decide ((Sum.inr a:fR)=Sum.inl b)=false:=decide_eq_false (λq=>nomatch q)
def fN(d:Program)(w:World):PySem.KeyKind d w fR where
 is:=xZ
 hash:=kv w
 inj:=λv l m f c=>by
  rcases fT f with ⟨i,t,rfl,rfl⟩|⟨x,t,rfl,rfl⟩
  ·rcases fT c with ⟨j,u,rfl,e⟩|⟨y,u,rfl,e⟩
   ·injection e with a _;rw[a]
   ·exact nomatch e
  ·rcases fT c with ⟨j,u,rfl,e⟩|⟨y,u,rfl,e⟩
   ·exact nomatch e
   ·injection e with a _;rw[a]
 byValue:=λk v h=>by
  rcases fT h with ⟨i,t,rfl,rfl⟩|⟨x,t,rfl,rfl⟩ <;> rfl
 pyHash:=λb h=>by
  rcases fT b with ⟨i,t,rfl,rfl⟩|⟨x,t,rfl,rfl⟩
  ·exact wpAny_pyHash_int h
  ·exact wpAny_pyHash_str h
 eqBool:=λg b h=>by
  rcases fT g with ⟨i,t,rfl,rfl⟩|⟨x,t,rfl,rfl⟩
  ·rcases fT b with ⟨j,u,rfl,rfl⟩|⟨y,u,rfl,rfl⟩
   ·rw[U8]at h;exact wpAny_eqBool_int h
   ·rw[Va]at h;exact SeqAt.EqAt.int_str i t y u _ _ _ _ h
  ·rcases fT b with ⟨j,u,rfl,rfl⟩|⟨y,u,rfl,rfl⟩
   ·rw[Vb]at h;exact SeqAt.EqAt.str_int x t j u _ _ _ _ h
   ·rw[U9]at h;exact wpAny_eqBool_str h
 «strs»:=λk x t v h=>by
  rcases fT h with ⟨i,u,rfl,e⟩|⟨y,u,rfl,e⟩
  ·exact nomatch e
  ·injection e with a _;subst a
   cases v <;> rfl
theorem D3(a:Program)(w:World)(i:Int)(t:Tok):(fN a w).is (.inl i) (.int i t)=true:=Kv i t
theorem D4(a:Program)(w:World)(x:Str)(t:Tok):(fN a w).is (.inr x) (.str x t)=true:=Kw x t
end _L2
namespace _L2
open Spec Rows
inductive V where
 | gc | bl (b:Bool) | int (i:Int) | str (x:Str) | GR (b:Array UInt8) | TX (b:UInt64) | ref (a:Addr) | ty (n:String)
 deriving DecidableEq
def RelV:V->Value->Prop
 | .gc,u=>u=Value.none
 | .bl b,u=>u=Value.bool b
 | .int i,u=>∃ t,u=Value.int i t
 | .str x,u=>∃ t,u=Value.str x t
 | .GR b,u=>∃ t,u=Value.bytes b t
 | .TX b,u=>∃ t,u=Value.float b t
 | .ref a,u=>u=Value.ref a
 | .ty n,u=>u=Value.type n
abbrev cE:List V->List Value->Prop:=Paired RelV
theorem cE.length{a:List V}{b:WP}(r:cE a b):↑a=↑b:=Paired.length r
theorem cE.get:∀ {a:List V} {b:WP} {i:Nat} {x:V},cE a b->a[i]?=⇑x->∃ u,b[i]?=⇑u/\RelV x u
 | _,_,_,_,.nil,e=>by simp at e
 | _,_,0,_,.cons r _,e=>by simp at e;subst e;exact⟨Y,r⟩
 | _,_,i+1,x,.cons _ t,e=>by
  let⟨u,c,d⟩:=cE.get (i:=i) (x:=x) t (by simpa using e);exact⟨u,by simpa using c,d⟩
theorem cE.set{x:V}{u:Value}(r:RelV x u):∀ {a:List V} {b:WP} (i:Nat),cE a b->cE (a.set i x) (b.set i u)
 | _,_,_,.nil=>.nil
 | _,_,0,.cons _ t=>.cons r t
 | _,_,i+1,.cons q t=>.cons q (cE.set r i t)
def cE.append{a b:List V}{c d:WP}(h:cE a c)(s:cE b d):cE (a++b) (c++d):=by
 induction h with
 | nil=>exact s
 | cons r _ e=>exact .cons r e
theorem cE.take:∀ {a:List V} {b:WP} (n:Nat),cE a b->cE (a.take n) (b.take n)
 | _,_,0,_=>.nil
 | _,_,_+1,.nil=>.nil
 | _,_,n+1,.cons r t=>.cons r (cE.take n t)
theorem cE.drop:∀ {a:List V} {b:WP} (n:Nat),cE a b->cE (a.drop n) (b.drop n)
 | _,_,0,r=>r
 | _,_,_+1,.nil=>.nil
 | _,_,n+1,.cons _ t=>cE.drop n t
def pD:Option V->Option Value->Prop
 | some v,some u=>RelV v u
 | none,none=>True
 | _,_=>False
def KV{a:Type}:List (a × V)->List (a × Value)->Prop:=Paired λ(p:a × V) (q:a × Value)=>p.1=q.1/\RelV p.2 q.2
def kV:fR->V
 | .inl i=>.int i
 | .inr x=>.str x
inductive HO where
 | lst (a:List V)
 | tup (a:List V)
 | dK (b:List (fR × V)) | dT (b:List (List fR × V))
 | set (d:Int->Bool) (n:Nat)
 | ins (C e:Addr) (c:List (Str × V))
 | own (x:Addr)
 | xd (c:List (Str × V))
 | met (f x:Addr)
 | D5 (lo g:Int)
 | Jd (o:Obj) (u:HO)
 | TY (h:Xt)
 | ext (i:Heap->Prop)
abbrev Hp:=Addr->Option HO
def aL(H:Hp)(a:Addr)(o:HO):Hp:=λb=>if b=a then some o else H b
def af{H:Hp}{a:Addr}{o:HO}:aL H a o a=⇑o:=by unfold aL;rw[if_pos rfl]
def aK{H:Hp}{a b:Addr}{o:HO}(h:b≠a):aL H a o b=H b:=by unfold aL;rw[if_neg h]
def cS{H:Hp}{a b:Addr}{o u:HO}(h:H a=⇑o)(c:H b=⇑u)(d:o≠u:=by intro z;cases z):a≠b:=by
 intro e;subst e;rw[h]at c;exact d (pQ c)
def aA{H:Hp}{a b:Addr}{o:HO}(h:H a=⇑o)(c:H b=none):a≠b:=by
 intro e;subst e;rw[h]at c;cases c
section
variable (P:Program) (w:World)
def gA(H:Hp)(h:Heap)(a:Addr):HO->Prop
 | .lst b=>↑b<=sizeLine/\∃ (c:WP) (n:Nat),cE b c/\h.get? a=some { cls:=.type "list",data:=.seq c.toArray n }
 | .tup b=>↑b<=sizeLine/\∃ c:List Value,cE b c/\IsTup h a c.toArray
 | .dK c=>↑c<=sizeLine/\(a == sysModules)=false/\∃ b,KV c b/\h.DictOf (fN P w) a b
 | .dT c=>↑c<=sizeLine/\(a == sysModules)=false/\∃ b:List (List fR × Addr × Value),
   Paired (λ(p:List fR × V) (q:List fR × Addr × Value)=>p.1=q.1/\H q.2.1=⇑(.tup (p.1.map kV))/\RelV p.2 q.2.2) c b/\
   ∃ o c d,h.get? a=⇑o/\o.ExactDict/\o.data=.dict c d/\c.toList=b.map (entryOfKey (tupleKind (fN P w)))/\(b.map (·.1)).Nodup
 | .set S n=>h.SetOf (intKind P w) a S n
 | .ins C d c=>H d=⇑(.own a)/\↑c<=1000/\d≠a/\h.get? a=⇑(instObj C d)/\
   ∃ b,h.Ns1 d b/\(∀ f,pD (c.lookup f) (b f))/\PySem.Within b (c.map (·.1))
 | .own _=>∃ o,h.get? a=⇑o
 | .xd c=>∃ b,h.Ns1 a b/\∀ f,pD (c.lookup f) (b f)
 | .D5 lo hi=>∃ t u v,h.get? a=some { cls:=.type "range",data:=.fields (List.toArray [.int lo t,.int hi u,.int 1 v]) }
 | .Jd o u=>h.get? a=⇑o/\gA H h a u
 | .TY b=>h.get? a=some { cls:=.none,data:=.fields b }
 | .met f x=>h.get? a=⇑(methodObj ↥f ↥x)
 | .ext b=>b h/\(∃ o,h.get? a=⇑o)/\∀ c d:Heap,b c->(∀ o,c.get? a=⇑o->d.get? a=⇑o)->b d
def tK(H:Hp)(h:Heap):Prop:=∀ a o,H a=⇑o->gA P w H h a o
end
section
variable {P:Program} {w:World} {H H':Hp} {h h':Heap} {a:Addr} {o:HO}
def gA.lt(x:gA P w H h a o):a<h.objs.size:=by
 cases o with
 | lst b=>let⟨_,_,_,_,e⟩:=x;exact Heap.lt_size e
 | tup b=>let⟨_,_,_,p⟩:=x;exact p.lt
 | dK b=>let⟨_,_,_,_,o,_,_,e,_⟩:=x;exact Heap.lt_size e
 | dT b=>let⟨_,_,_,_,o,_,_,e,_⟩:=x;exact Heap.lt_size e
 | set S n=>let⟨o,_,_,_,e,_⟩:=x;exact Heap.lt_size e
 | ins C c b=>let⟨_,_,_,e,_⟩:=x;exact Heap.lt_size e
 | own y=>let⟨_,e⟩:=x;exact Heap.lt_size e
 | xd b=>let⟨_,⟨_,_,_,e,_⟩,_⟩:=x;exact Heap.lt_size e
 | D5 lo hi=>let⟨_,_,_,e⟩:=x;exact Heap.lt_size e
 | Jd b u=>let⟨e,_⟩:=x;exact Heap.lt_size e
 | TY b=>exact Heap.lt_size (show h.get? a=⇑_ from x)
 | met f y=>exact Heap.lt_size (show h.get? a=⇑_ from x)
 | ext b=>let⟨_,⟨_,e⟩,_⟩:=x;exact Heap.lt_size e
def Paired.Cs{b c:Type}{d G:b->c->Prop}{e:List b}{f:List c}(h:Paired d e f)(i:∀ a g,d a g->G a g):Paired G e f:=by
 induction h with
 | nil=>exact .nil
 | cons r _ j=>exact .cons (i _ _ r) j
theorem gA.stay(x:gA P w H h a o)(k:∀ b u,(b=a\/H b=⇑(.own a))->h.get? b=⇑u->h'.get? b=⇑u)
  (m:∀ b,H b=⇑(.own a)->H' b=⇑(.own a)) (v:∀ b i,H b=⇑(.tup i)->H' b=⇑(.tup i)):gA P w H' h' a o:=by
 induction o with
 | lst i=>let⟨z,f,n,r,e⟩:=x;exact⟨z,f,n,r,k _ _ (.inl rfl) e⟩
 | tup i=>let⟨z,f,r,d,e,c⟩:=x;exact⟨z,f,r,d,k _ _ (.inl rfl) e,c⟩
 | dK j=>let⟨z,y,l,r,d,f,g,e,c⟩:=x;exact⟨z,y,l,r,d,f,g,k _ _ (.inl rfl) e,c⟩
 | dT j =>
  let⟨z,y,i,r,d,f,g,e,c⟩:=x;exact⟨z,y,i,Paired.Cs r λp q z=>⟨z.1,v _ _ z.2.1,z.2.2⟩,d,f,g,k _ _ (.inl rfl) e,c⟩
 | set S n=>let⟨d,f,g,t,e,c⟩:=x;exact⟨d,f,g,t,k _ _ (.inl rfl) e,c⟩
 | ins C q n =>
  let⟨l,z,ne,e,d,⟨j,f,g,p,c⟩,r⟩:=x;exact⟨m _ l,z,ne,k _ _ (.inl rfl) e,d,⟨j,f,g,k _ _ (.inr l) p,c⟩,r⟩
 | own y=>let⟨d,e⟩:=x;exact⟨d,k _ _ (.inl rfl) e⟩
 | xd n=>let⟨d,⟨j,f,g,e,c⟩,r⟩:=x;exact⟨d,⟨j,f,g,k _ _ (.inl rfl) e,c⟩,r⟩
 | D5 lo hi=>let⟨t,u,c,e⟩:=x;exact⟨t,u,c,k _ _ (.inl rfl) e⟩
 | Jd d u c=>let⟨e,q⟩:=x;exact⟨k _ _ (.inl rfl) e,c q⟩
 | TY c =>
  let e:h.get? a=some { cls:=.none,data:=.fields c }:=x;show h'.get? a=some { cls:=.none,data:=.fields c };exact k a _ (.inl rfl) e
 | met f y =>
  let e:h.get? a=⇑(methodObj ↥f ↥y):=x;show h'.get? a=⇑(methodObj ↥f ↥y);exact k a _ (.inl rfl) e
 | ext c=>let⟨p,⟨o,e⟩,st⟩:=x;exact⟨st _ _ p λo q=>k _ _ (.inl rfl) q,⟨o,k _ _ (.inl rfl) e⟩,st⟩
theorem tK.lt(x:tK P w H h)(e:H a=⇑o):a<h.objs.size:=(x a o e).lt
def tK.fresh(x:tK P w H h)(e:h.objs.size<=a):H a=none:=by
 cases q:H a with
 | none=>rfl
 | some u=>exact absurd (pP (x.lt q) e) (Nat.lt_irrefl _)
theorem tK.kept(x:tK P w H h)(k:∀ b u,h.get? b=⇑u->h'.get? b=⇑u):tK P w H h':=λa o e =>
 (x a o e).stay (λb u _ q=>k b u q) (λ_ q=>q) λ_ _ q=>q
theorem tK.laid(x:tK P w H h)(k:∀ b u,h.get? b=⇑u->h'.get? b=⇑u)(f:h.objs.size<=a)(g:gA P w (aL H a o) h' a o):tK P w (aL H a o) h':=λb u e=>by
 let d:=x.fresh f;by_cases c:b=a
 ·subst c;rw[af]at e;cases e;exact g
 ·rw[aK c]at e;exact (x b u e).stay (λc v _ q=>k c v q) (λc q=>by rw[aK (aA q d)];exact q) λc c q=>by rw[aK (aA q d)];exact q
end
def Rd(H:Hp)(a:Addr)(u:HO):Prop:=H a=⇑u\/∃ o,H a=⇑(.Jd o u)
def Rd.ok{P:Program}{w:World}{H:Hp}{h:Heap}{a:Addr}{u:HO}(r:Rd H a u)(x:tK P w H h):gA P w H h a u:=by
 rcases r with r|⟨o,r⟩
 ·exact x a u r
 ·let⟨_,q⟩:=x a _ r;exact q
def Ys:Option HO->Prop
 | some (.lst _)=>True
 | some (.dK _)=>True
 | some (.dT _)=>True
 | some (.set _ _)=>True
 | some (.ins _ _ _)=>True
 | some (.ext _)=>True
 | _=>False
section
variable {P:Program} {w:World} {H:Hp} {h h':Heap} {x e:Addr} {o':HO}
theorem tK.write(l:tK P w H h)(a:Ys (H x))(j:e=x\/H e=⇑(.own x))(m:∀ b u,b≠e->h.get? b=⇑u->h'.get? b=⇑u)(n:∃ u,h'.get? e=⇑u)
  (o:gA P w (aL H x o') h' x o'):tK P w (aL H x o') h':=λb u q=>by
 let k:∀ c y,H c=⇑(.own y)->c≠x:=λc y r z=>by subst z;rw[r]at a;exact a
 let p:∀ c d,H c=⇑(.tup d)->c≠x:=λc d r z=>by subst z;rw[r]at a;exact a
 by_cases f:b=x
 ·subst f;rw[af]at q;cases q;exact o
 ·rw[aK f]at q;by_cases g:b=e
  ·let i:H b=⇑(.own x):=by
    rcases j with z|z
    ·exact absurd (g.trans z) f
    ·rw[g];exact z
   rw[q]at i;cases i;let⟨v,i⟩:=n;exact⟨v,by rw[g];exact i⟩
  ·refine (l b u q).stay (λc v i r=>m c v ?_ r) (λc r=>by rw[aK (k c b r)];exact r) λc d r=>by rw[aK (p c d r)];exact r
   rcases i with rfl|i
   ·exact g
   ·rintro rfl;rcases j with z|z
    ·exact k c b i z
    ·rw[i]at z;cases z;exact f rfl
end
structure Un(fs ex:WF)(H H':Hp)(h h':Heap):Prop where
 keep:∀ b o,h.get? b=⇑o->H b=none->b∉fs->b∉ex->h'.get? b=⇑o
 slot:∀ b o,h.get? b=⇑o->H b=none->b∈fs->b∉ex->∃ sl,h'.get? b=some { o with slots:=sl }
 free:∀ b o,h.get? b=⇑o->H b=none->b∉ex->H' b=none
 there:∀ b o,h.get? b=⇑o->b∉ex->∃ o',h'.get? b=⇑o'
 tups:∀ b xs,H b=⇑(.tup xs)->H' b=⇑(.tup xs)
 Ct:∀ b o u,H b=⇑(.Jd o u)->H' b=⇑(.Jd o u)
 D6:∀ b ps,H b=⇑(.TY ps)->∃ more,H' b=⇑(.TY (ps++more))
section
variable {fs XU ex ex':WF} {H H1 H2:Hp} {h h1 h2 h':Heap} {a x e:Addr} {o:HO}
def Un.any(u:Un fs ex H H1 h h1){b:Addr}{c:Obj}(q:h.get? b=⇑c)(n:H b=none)(d:b∉ex):∃ f,h1.get? b=some { c with slots:=f }:=by
 by_cases a:b∈fs
 ·exact u.slot b c q n a d
 ·exact⟨c.slots,u.keep b c q n a d⟩
theorem Un.kept(k:∀ b u,h.get? b=⇑u->h'.get? b=⇑u):Un fs ex H H h h' :=
 ⟨λb a q _ _ _=>k b a q,λb a q _ _ _=>⟨a.slots,k b a q⟩,λ_ _ _ n _=>n,λb a q _=>⟨a,k b a q⟩,λ_ _ q=>q,λ_ _ _ q=>q,λ_ a q=>⟨#[],by rw[q];simp⟩⟩
theorem Un.refl:Un fs ex H H h h:=Un.kept λ_ _ q=>q
theorem Un.laid(k:∀ b u,h.get? b=⇑u->h'.get? b=⇑u)(d:h.objs.size<=a)(c:H a=none):Un fs ex H (aL H a o) h h' where
 keep:=λb u q _ _ _=>k b u q
 slot:=λb u q _ _ _=>⟨u.slots,k b u q⟩
 free:=λb u q n _=>by rw[aK (jN (pP (Heap.lt_size q) d))];exact n
 there:=λb u q _=>⟨u,k b u q⟩
 tups:=λb e q=>by rw[aK (aA q c)];exact q
 Ct:=λb u e q=>by rw[aK (aA q c)];exact q
 D6:=λb e q=>⟨#[],by rw[aK (aA q c),q];simp⟩
def Un.write(c:Ys (H x))(i:e=x\/H e=⇑(.own x))(k:∀ b u,b≠e->h.get? b=⇑u->h'.get? b=⇑u)(j:∃ u,h'.get? e=⇑u):Un fs ex H (aL H x o) h h':=by
 let d:∀ b,H b=none->b≠x:=λb n z=>by subst z;rw[n]at c;exact c
 let f:∀ b,H b=none->b≠e:=λb n z=>by
  subst z;rcases i with r|r
  ·exact d b n r
  ·rw[n]at r;cases r
 let a:∀ b u,H b=⇑u->¬ Ys (⇑u)->b≠x:=λb u q l z=>by subst z;rw[q]at c;exact l c
 refine⟨λb u q n _ _=>k b u (f b n) q,λb u q n _ _=>⟨u.slots,k b u (f b n) q⟩,λb u q n _=>by rw[aK (d b n)];exact n,λb u q _=>?_, λb d q=>by rw[aK (a b _ q λz=>z)];exact q,λb u d q=>by rw[aK (a b _ q λz=>z)];exact q,λb d q=>⟨#[],by rw[aK (a b _ q λz=>z),q];simp⟩⟩;by_cases g:b=e
 ·subst g;exact j
 ·exact⟨u,k b u g q⟩
end
def cu(h:Heap)(H:Hp):WF:=(List.range h.objs.size).filter λa=>(H a).isSome
def Cu(h:Heap)(H:Hp):Heap:=PySem.W.hideAll h (cu h H)
theorem Kx(h:Heap)(H:Hp):(Cu h H).objs.size=h.objs.size:=PySem.W.hideAll_size _ _
theorem MT{h:Heap}{H:Hp}{b:Addr}{o:Obj}(e:h.get? b=⇑o)(n:H b=none):(Cu h H).get? b=⇑o :=
 PySem.W.hideAll_get _ e λa=>by
  let q:(H b).isSome=true:=(List.mem_filter.mp a).2;rw[n]at q;simp at q
def QE{h:Heap}{H:Hp}{b:Addr}{o:Obj}(e:(Cu h H).get? b=⇑o):h.get? b=⇑o/\H b=none:=by
 let a:h.get? b=⇑o:=PySem.W.of_hideAll (cu h H) e;exists a
 cases q:H b with
 | none=>rfl
 | some x =>
  let c:b∈cu h H:=List.mem_filter.mpr ⟨List.mem_range.mpr (Heap.lt_size a),by simp[q]⟩;let z:(Cu h H).get? b=none:=PySem.W.hideAll_none (cu h H) c;rw[z]at e;cases e
end _L2
namespace _L2
open Spec Rows
structure Mod(K:Frag)(mg:Ya)(zt:Heap):Prop where
 c':K.In zt
 glob:zt.Ns mainGlobals mg
 blt:∃ mb,zt.Ns builtinsNs mb/\∀ x:Str,x≠"__name__"->mb x=bootBuiltins x
 nolimit:zt.NoLimit
structure Cx where
 prog:Program
 w:World
 K:Frag
 mg:Str->Option Value
 zt:Heap
 A:Around
 N:List Str
 s₀:Shared
 H₀:Hp
 env:Env
 zn:List Env
 stack:List Env
 ex:List Addr
 fn:Str->Bool
 calm:Bool
 pn:List (Addr × Obj)
 xe:Value->Shared->Prop
def MU(l:List Env):WF:=l.filterMap (·.frame)
abbrev Cx.fs(a:Cx):WF:=MU a.zn
def d0(a:Scope)(x:Str):Prop:=a.names.lookup x=⇑.local\/a.names.lookup x=⇑.cell\/a.names.lookup x=⇑.free
def Loc(a:Scope)(x:Str):Prop:=a.names.lookup x=⇑.local\/a.names.lookup x=⇑.cell
def Look(a:Env)(h:Heap)(m:Ya)(x:Str)(u:Value):Prop :=
 (a.kindOf x=⇑.local/\m x=⇑u)\/((a.kindOf x=⇑.cell\/a.kindOf x=⇑.free)/\∃ c,a.cells.lookup x=⇑c/\h.IsCell c (⇑u))
structure Cx.Ok(X:Cx):Prop where
 mod:Mod X.K X.mg X.zt
 kind:X.env.scope.kind=.function
 glob:X.env.globals=mainGlobals
 blt:X.env.builtins=builtinsNs
 above:X.s₀.heap.objs.size<=X.env.locals
 inj:∀ x y c,X.env.cells.lookup x=⇑c->X.env.cells.lookup y=⇑c->x=y
 has:∀ x,(X.env.kindOf x=⇑.cell\/X.env.kindOf x=⇑.free)->∃ c,X.env.cells.lookup x=⇑c
 Yu:∀ x c,X.fn x=true->X.env.cells.lookup x=⇑c->X.s₀.heap.objs.size<=c
 hd:X.calm=true->X.A.handled=none
 frames:X.A.frames=⇑X.stack
 stk:X.stack=X.zn\/(X.stack=X.env::X.zn/\X.env.frame=⇑X.env.locals)
 gb:∀ b∈X.ex,b≠X.env.locals/\∀ x c,X.env.cells.lookup x=⇑c->c≠b
 bs:∀ b o,X.zt.get? b=⇑o->X.s₀.heap.get? b=⇑o/\X.H₀ b=none
 TZ:X.zt.objs.size<=X.s₀.heap.objs.size
 MV:∀ b o,X.zt.get? b=⇑o->b∉X.ex
 QF:∀ b∈X.ex,b∉X.fs
 xr:X.s₀.heap.FunFrames X.zt X.zn
 Vd:∀ b∈X.fs,X.H₀ b=none
structure Inv(X:Cx)(au:List (Addr × Obj))(σ:List (Option V))(H:Hp)(s:Shared):Prop where
 ok:X.Ok
 os:s.os=X.s₀.os
 bare:AllBare s.gens
 zt:Un X.fs X.ex X.H₀ H X.s₀.heap s.heap
 loc:∃ m,s.heap.Ns X.env.locals m/\∀ (i:Nat) (x:Str) (v:V),X.N[i]?=⇑x->σ[i]?=⇑(⇑v)->d0 X.env.scope x->∃ u,RelV v u/\Look X.env s.heap m x u
 cell:∀ x c,X.env.cells.lookup x=⇑c->∃ v,s.heap.IsCell c v
 free:H X.env.locals=none
 rj:∀ x c,X.env.cells.lookup x=⇑c->H c=none
 pin:∀ p∈X.pn++au,s.heap.get? p.1=⇑p.2/\H p.1=none/\p.1≠X.env.locals/\p.1∉X.fs/\∀ v,p.2.data≠.cell v
 hok:tK X.prog X.w H s.heap
 len:↑σ=↑X.N
section
variable {X:Cx} {c:List (Addr × Obj)} {d:List (Option V)} {H H':Hp} {s:Shared} {h':Heap}
theorem Cx.Ok.kw(a:X.Ok){b:Addr}{o:Obj}(e:X.zt.get? b=⇑o):b∉X.fs:=λc=>by
 have:=(a.xr.mem c).1;rw[e]at this;cases this
theorem Inv.bs(I:Inv X c d H s):∀ b o,X.zt.get? b=⇑o->s.heap.get? b=⇑o/\H b=none:=λb o e =>
 ⟨I.zt.keep b o (I.ok.bs b o e).1 (I.ok.bs b o e).2 (I.ok.kw e) (I.ok.MV b o e),I.zt.free b o (I.ok.bs b o e).1 (I.ok.bs b o e).2 (I.ok.MV b o e)⟩
theorem Inv.bk(I:Inv X c d H s):∀ b o,X.zt.get? b=⇑o->s.heap.get? b=⇑o:=λb o e=>(I.bs b o e).1
theorem Inv.mod(I:Inv X c d H s):Mod X.K X.mg X.zt:=I.ok.mod
theorem Inv.we(I:Inv X c d H s):X.K.In s.heap:=I.ok.mod.c'.keeps I.bk
theorem Inv.lt(I:Inv X c d H s):X.env.locals<s.heap.objs.size:=let ⟨_,a,_⟩:=I.loc;a.lt
theorem Inv.sz(I:Inv X c d H s):X.s₀.heap.objs.size<=s.heap.objs.size:=iC I.ok.above (gn I.lt)
theorem Inv.kx(I:Inv X c d H s){a:Addr}(h:s.heap.objs.size<=a):a∉X.fs:=λb=>by
 let⟨_,o,e,_⟩:=I.ok.xr.mem b;exact absurd (pP (Heap.lt_size e) (iC I.sz h)) (Nat.lt_irrefl _)
theorem Inv.Ve(I:Inv X c d H s):∀ x a,X.env.cells.lookup x=⇑a->a≠X.env.locals:=λx a f z=>by
 let⟨v,o,b,e⟩:=I.cell x a f;let⟨m,⟨h,i,j,f,g,_⟩,_⟩:=I.loc;rw[z,f]at b;cases b;rw[g]at e;cases e
def Inv.xr(I:Inv X c d H s):s.heap.FunFrames X.zt X.zn:=by
 let g:∀ (l:List Env),(∀ b∈MU l,b∈X.fs)->X.s₀.heap.FunFrames X.zt l->s.heap.FunFrames X.zt l:=by
  intro l
  induction l with
  | nil=>intro _ _;trivial
  | cons env r h =>
   intro f e;let⟨i,⟨L,o,a,j,k,l⟩,hr⟩:=e;let e:L∈X.fs:=f L (by unfold MU;rw[List.filterMap_cons,a];exact rY);let⟨n,m⟩:=I.zt.slot L o k (I.ok.Vd L e) e λz=>I.ok.QF L z e;exact⟨i,⟨L,_,a,j,m,l⟩,h (λb e=>f b (by unfold MU;rw[List.filterMap_cons,a];exact kY _ e)) hr⟩
 exact g X.zn (λ_ e=>e) I.ok.xr
def Inv.stack(I:Inv X c d H s):s.heap.FunFrames X.zt X.stack:=by
 rcases I.ok.stk with e|⟨e,a⟩
 ·rw[e];exact I.xr
 ·rw[e];let⟨m,b,_⟩:=I.loc;refine .cons (by rw[I.ok.kind];decide) a b ?_ I.xr;exact Heap.get?_none_of_le (iC I.ok.TZ I.ok.above)
theorem Inv.u9(I:Inv X c d H s):∀ b∈MU X.stack,b∈X.env.locals::X.fs:=λb a=>by
 rcases I.ok.stk with e|⟨e,f⟩
 ·rw[e]at a;exact kY _ a
 ·rw[e]at a;unfold MU at a;rw[List.filterMap_cons,f]at a;exact a
theorem Inv.Je(I:Inv X c d H s):∀ b∈MU X.stack,H b=none:=λb a=>by
 rcases List.mem_cons.mp (I.u9 b a) with e|a
 ·rw[e];exact I.free
 ·let⟨_,o,e,_⟩:=I.ok.xr.mem a;exact I.zt.free b o e (I.ok.Vd b a) λz=>I.ok.QF b z a
theorem Inv.step{g':Array GenState}{J:Nat}{d':Drawn}{ch:WF}(I:Inv X c d H s)
  (k:∀ b∈ch,(b∈X.ex\/X.s₀.heap.objs.size<=b)/\b≠X.env.locals/\(∀ x a,X.env.cells.lookup x=⇑a->a≠b)/\∀ p∈X.pn++c,p.1≠b)
  (w:∀ b o,b≠X.env.locals->b∉X.fs->b∉ch->s.heap.get? b=⇑o->H b=none->h'.get? b=⇑o)
  (C:∀ b o,b≠X.env.locals->b∈X.fs->b∉ch->s.heap.get? b=⇑o->H b=none->∃ y,h'.get? b=some { o with slots:=y }) (free:∀ b o,b∉ch->s.heap.get? b=⇑o->H b=none->H' b=none)
  (L:∀ b o,b∉ch->s.heap.get? b=⇑o->∃ l,h'.get? b=⇑l)
  (M:∀ b h,H b=⇑(.tup h)->H' b=⇑(.tup h)) (N:∀ b o u,H b=⇑(.Jd o u)->H' b=⇑(.Jd o u)) (O:∀ b r,H b=⇑(.TY r)->∃ T,H' b=⇑(.TY (r++T)))
  (U:∀ m,s.heap.Ns X.env.locals m->h'.Ns X.env.locals m) (hok:tK X.prog X.w H' h') (hg:AllBare g') :
  Inv X c d H' { s with heap:=h',gens:=g',drawn:=d',toks:=J }:=by
 let D:∀ b o,X.s₀.heap.get? b=⇑o->b≠X.env.locals:=λb o e=>jN (pP (Heap.lt_size e) I.ok.above)
 let t:∀ b o,X.s₀.heap.get? b=⇑o->b∉X.ex->b∉ch:=λb o e f i=>by
  rcases (k b i).1 with z|z
  ·exact f z
  ·exact absurd (pP (Heap.lt_size e) z) (Nat.lt_irrefl _)
 let F:∀ x a,X.env.cells.lookup x=⇑a->∀ v,s.heap.IsCell a v->h'.IsCell a v:=λx a e v ⟨o,j,A⟩=>by
  let g:a∉ch:=λz=>(k a z).2.2.1 x a e rfl;by_cases n:a∈X.fs
  ·let⟨y,q⟩:=C a o (I.Ve x a e) n g j (I.rj x a e);exact⟨_,q,A⟩
  ·exact⟨o,w a o (I.Ve x a e) n g j (I.rj x a e),A⟩
 refine⟨I.ok,I.os,hg,⟨λb o e n i f=>?_,λb o e n i f=>?_,λb o e n f=>?_,λb o e f=>?_,λb h e=>M b h (I.zt.tups b h e),λb o h e=>N b o h (I.zt.Ct b o h e),λb r e=>?_⟩,?_,λx a e=>?_,?_,λx a e=>?_,λp G=>?_,hok,I.len⟩
 ·exact w b o (D b o e) i (t b o e f) (I.zt.keep b o e n i f) (I.zt.free b o e n f)
 ·let⟨y,g⟩:=I.zt.slot b o e n i f;let⟨z,q⟩:=C b _ (D b o e) i (t b o e f) g (I.zt.free b o e n f);exact⟨z,q⟩
 ·let⟨l,g⟩:=I.zt.there b o e f;exact free b l (t b o e f) g (I.zt.free b o e n f)
 ·let⟨l,g⟩:=I.zt.there b o e f;exact L b l (t b o e f) g
 ·let⟨f,g⟩:=I.zt.D6 b r e;let⟨i,q⟩:=O b _ g;exact⟨f++i,by rw[q,Array.append_assoc]⟩
 ·let⟨m,f,i⟩:=I.loc;refine⟨m,U m f,λf x v g q t=>?_⟩;let⟨u,D,B⟩:=i f x v g q t;exists u,D;rcases B with B|⟨f,a,e,z⟩
  ·exact .inl B
  ·exact .inr ⟨f,a,e,F x a e _ z⟩
 ·let⟨v,z⟩:=I.cell x a e;exact⟨v,F x a e v z⟩
 ·let⟨m,⟨o,_,_,j,_⟩,_⟩:=I.loc;exact free _ o (λz=>(k _ z).2.1 rfl) j I.free
 ·let⟨v,o,j,A⟩:=I.cell x a e;exact free a o (λz=>(k a z).2.2.1 x a e rfl) j (I.rj x a e)
 ·let⟨e,n,q,B,R⟩:=I.pin p G;let g:p.1∉ch:=λz=>(k p.1 z).2.2.2 p G rfl;exact⟨w p.1 p.2 q B g e n,free p.1 p.2 g e n,q,B,R⟩
def Inv.un{g:Nat}(I:Inv X c d H s)(u:Un X.fs [] H H' s.heap h')(hok:tK X.prog X.w H' h'):Inv X c d H' { s with heap:=h',toks:=g }:=by
 let⟨m,⟨o,b,k,f,r⟩,_⟩:=id I.loc;let⟨b,h⟩:=u.any f I.free (by simp)
 exact I.step (g':=s.gens) (d':=s.drawn) (ch:=[]) (λ_ z=>nomatch z) (λb o _ a _ e n=>u.keep b o e n a (by simp)) (λb o _ a _ e n=>u.slot b o e n a (by simp)) (λb o _ e n=>u.free b o e n (by simp)) (λb o _ e=>u.there b o e (by simp)) u.tups u.Ct u.D6 (λk b=>by
  let⟨k,e,i,a,j⟩:=b;rw[f]at a;cases a
  exact⟨_,e,i,h,j⟩) hok I.bare
theorem Inv.call{h:Array GenState}{l:Nat}{p:Drawn}{f:WF}(I:Inv X c d H s)(u:Un (MU X.stack) f H H' s.heap h')(hok:tK X.prog X.w H' h')(q:AllBare h)
  (i:∀ b∈f,(b∈X.ex\/X.s₀.heap.objs.size<=b)/\b≠X.env.locals/\(∀ x j,X.env.cells.lookup x=⇑j->j≠b)/\∀ r∈X.pn++c,r.1≠b) :
  Inv X c d H' { s with heap:=h',gens:=h,drawn:=p,toks:=l }:=by
 let⟨m,⟨o,e,w,k,y⟩,_⟩:=id I.loc;let⟨e,g⟩:=u.any k I.free λz=>(i _ z).2.1 rfl
 exact I.step (ch:=f) i (λb o g t a e n=>u.keep b o e n (λz=>(List.mem_cons.mp (I.u9 b z)).elim g t) a) (λb o _ _ a e n=>u.any e n a) (λb o a e n=>u.free b o e n a) (λb o a e=>u.there b o e a) u.tups u.Ct u.D6 (λo e=>by
  let⟨o,n,t,a,v⟩:=e;rw[k]at a;cases a
  exact⟨_,n,t,g,v⟩) hok q
theorem Inv.turned{t':Nat}{it:Addr}(I:Inv X c d H s)(k:∀ b o,b≠it->s.heap.get? b=⇑o->h'.get? b=⇑o)(i:H it=none)(g:it≠X.env.locals)
  (j:it∈X.ex\/X.s₀.heap.objs.size<=it) (l:∀ x f,X.env.cells.lookup x=⇑f->f≠it) (m:∀ p∈X.pn++c,p.1≠it):Inv X c d H { s with heap:=h',toks:=t' }:=by
 let h:∀ b u,H b=⇑u->b≠it:=λb u e z=>by rw[z,i]at e;cases e
 refine I.step (g':=s.gens) (d':=s.drawn) (ch:=[it]) (λb n=>?_) (λb o _ _ a e _=>k b o (λz=>a (by simp[z])) e) (λb o _ _ a e _=>⟨o.slots,k b o (λz=>a (by simp[z])) e⟩) (λ_ _ _ _ a=>a) (λb o a e=>⟨o,k b o (λz=>a (by simp[z])) e⟩) (λ_ _ e=>e) (λ_ _ _ e=>e) (λb a e=>⟨#[],by rw[e];simp⟩) (λr q=>?_) (λb u e=>?_) I.bare
 ·let e:b=it:=by simpa using n
  subst e;exact⟨j,g,l,m⟩
 ·let⟨o,a,n,r,t⟩:=q;exact⟨o,a,n,k _ o (Ne.symm g) r,t⟩
 ·refine (I.hok b u e).stay (λf v a q=>k f v ?_ q) (λ_ q=>q) λ_ _ q=>q;rcases a with z|z
  ·rw[z];exact h b u e
  ·exact h f _ z
theorem Inv.tok(I:Inv X c d H s)(t:Nat):Inv X c d H { s with toks:=t }:=I.un (h':=s.heap) (g:=t) Un.refl I.hok
theorem Inv.kept{t':Nat}(I:Inv X c d H s)(k:∀ b u,s.heap.get? b=⇑u->h'.get? b=⇑u):Inv X c d H { s with heap:=h',toks:=t' }:=I.un (Un.kept k) (I.hok.kept k)
theorem Inv.laid{a:Addr}{o:HO}{t':Nat}(I:Inv X c d H s)(k:∀ e u,s.heap.get? e=⇑u->h'.get? e=⇑u)(b:s.heap.objs.size<=a)(f:gA X.prog X.w (aL H a o) h' a o) :
  Inv X c d (aL H a o) { s with heap:=h',toks:=t' }:=I.un (Un.laid k b (I.hok.fresh b)) (I.hok.laid k b f)
theorem Inv.write{x e:Addr}{o:HO}{h:Nat}(I:Inv X c d H s)(a:Ys (H x))(f:e=x\/H e=⇑(.own x))(k:∀ b u,b≠e->s.heap.get? b=⇑u->h'.get? b=⇑u)(g:∃ u,h'.get? e=⇑u)
  (i:gA X.prog X.w (aL H x o) h' x o):Inv X c d (aL H x o) { s with heap:=h',toks:=h }:=I.un (Un.write a f k g) (I.hok.write a f k g i)
theorem Inv.Jf(I:Inv X c d H s)(h:∀ p∈a,s.heap.get? p.1=⇑p.2/\H p.1=none/\p.1≠X.env.locals/\p.1∉X.fs/\∀ v,p.2.data≠.cell v):Inv X a d H s :=
 ⟨I.ok,I.os,I.bare,I.zt,I.loc,I.cell,I.free,I.rj,λp b=>(List.mem_append.mp b).elim (λz=>I.pin p (n9 _ z)) (h p),I.hok,I.len⟩
def D7{N:UV}(a:N.Nodup){i j:Nat}{x:Str}(b:N[i]?=⇑x)(e:N[j]?=⇑x):i=j:=by
 let⟨d,c⟩:=List.getElem?_eq_some_iff.mp b;let⟨f,d⟩:=List.getElem?_eq_some_iff.mp e;exact (List.getElem_inj a).mp (c.trans d.symm)
theorem Bd{ak:Model}{am:Around}{E:ZB}{t:Nat}{x:Str}{T:V}{A:Value}{Q:Unit->Shared->Prop}(I:Inv X c d H s)(U:X.N.Nodup)(u:X.N[t]?=⇑x)(i:Loc X.env.scope x)(ab:RelV T A)
  (ae:∀ D,Inv X c (d.set t (⇑T)) H D->(∃ k,Heap.SameBut k s.heap D.heap/\(k=X.env.locals\/X.env.cells.lookup x=⇑k))->Q () D) (hf:X.fn x=true\/X.env.scope.names.lookup x=⇑.local:=by bv_normalize):wpAny ak am (storeName X.env x A) Q E s:=by
 let⟨an,F,S⟩:=id I.loc;let ap:(X.env.scope.kind == .class || (X.env.scope.kind == .module&&X.env.locals != X.env.globals))=false:=by rw[I.ok.kind];rfl
 let W:t<↑d:=by rw[I.len];exact (List.getElem?_eq_some_iff.mp u).1
 let G:=I.Ve
 let ag:∀ {k:Addr} {h':Heap},(∃ o,s.heap.get? k=⇑o/\H k=none)->Heap.SameBut k s.heap h'->tK X.prog X.w H h':=λ{k h'} ha a b ob e=>by
  let⟨_,_,g⟩:=ha;refine (I.hok b ob e).stay (λf B h q=>(a.2 f ?_).trans q) (λ_ q=>q) λ_ _ q=>q;rintro rfl;rcases h with rfl|h
  ·rw[g]at e;cases e
  ·rw[g]at h;cases h
 rcases i with l|l
 ·refine wpAny_storeName_local l F (λh' h a=>?_) ap;let⟨C,_,_,R,_⟩:=id F;refine ae _ ⟨I.ok,I.os,I.bare,⟨λb o e n m i=>?_,λb o e n m i=>?_,I.zt.free,λb o e i=>?_,I.zt.tups,I.zt.Ct,I.zt.D6⟩,⟨_,h,λv y J g j L=>?_⟩,λy f e=>?_,I.free,I.rj,λr M=>?_,ag ⟨C,R,I.free⟩ a,by simpa using I.len⟩ ⟨_,a,.inl rfl⟩
  ·exact (a.2 b (jN (pP (Heap.lt_size e) I.ok.above))).trans (I.zt.keep b o e n m i)
  ·let⟨p,g⟩:=I.zt.slot b o e n m i;exact⟨p,(a.2 b (jN (pP (Heap.lt_size e) I.ok.above))).trans g⟩
  ·let⟨p,g⟩:=I.zt.there b o e i;exact⟨p,(a.2 b (jN (pP (Heap.lt_size e) I.ok.above))).trans g⟩
  ·by_cases p:v=t
   ·subst p;rw[u]at g;cases g;rw[List.getElem?_set_self W]at j;cases j;exact⟨A,ab,.inl ⟨l,by simp⟩⟩
   ·rw[List.getElem?_set_ne (Ne.symm p)]at j;let⟨N,O,q⟩:=S v y J g j L;exists N,O;rcases q with ⟨w,e⟩|⟨w,f,e,z⟩
    ·refine .inl ⟨w,?_⟩;have:y≠x:=λe=>p (D7 U g (e ▸ u));simp[this,e]
    ·exact .inr ⟨w,f,e,z.sameBut a (G y f e)⟩
  ·let⟨B,z⟩:=I.cell y f e;exact⟨B,z.sameBut a (G y f e)⟩
  ·let⟨e,n,p,N,w⟩:=I.pin r M;exact⟨(a.2 r.1 p).trans e,n,p,N,w⟩
 ·let R:X.fn x=true:=by
   rcases hf with z|z
   ·exact z
   ·rw[z]at l;cases l
  let⟨f,h⟩:=I.ok.has x (.inl l);let⟨B,z⟩:=I.cell x f h;refine wpAny_storeName_cell I.ok.kind l h z (λh' Yw a=>?_);let⟨oc,ai,aq⟩:=id z;refine ae { s with heap:=h' } ⟨I.ok,I.os,I.bare,⟨λb o e n m i=>?_,λb o e n m i=>?_,I.zt.free,λb o e i=>?_,I.zt.tups,I.zt.Ct,I.zt.D6⟩,⟨an,F.sameBut a (Ne.symm (G x f h)),λv y J g j L=>?_⟩,λy C e=>?_,I.free,I.rj,λr M=>?_,ag ⟨oc,ai,I.rj x f h⟩ a,by simpa using I.len⟩ ⟨f,a,.inr h⟩
  ·exact (a.2 b (jN (pP (Heap.lt_size e) (I.ok.Yu x f R h)))).trans (I.zt.keep b o e n m i)
  ·let⟨p,g⟩:=I.zt.slot b o e n m i;exact⟨p,(a.2 b (jN (pP (Heap.lt_size e) (I.ok.Yu x f R h)))).trans g⟩
  ·let⟨p,g⟩:=I.zt.there b o e i;exact⟨p,(a.2 b (jN (pP (Heap.lt_size e) (I.ok.Yu x f R h)))).trans g⟩
  ·by_cases p:v=t
   ·subst p;rw[u]at g;cases g;rw[List.getElem?_set_self W]at j;cases j;exact⟨A,ab,.inr ⟨.inl l,f,h,Yw⟩⟩
   ·rw[List.getElem?_set_ne (Ne.symm p)]at j;let⟨N,O,q⟩:=S v y J g j L;exists N,O;rcases q with q|⟨w,C,e,b⟩
    ·exact .inl q
    ·refine .inr ⟨w,C,e,b.sameBut a ?_⟩;rintro rfl;exact p (D7 U g (I.ok.inj _ _ _ e h ▸ u))
  ·by_cases p:C=f
   ·subst p;exact⟨_,Yw⟩
   ·let⟨b,f⟩:=I.cell y C e;exact⟨b,f.sameBut a p⟩
  ·let⟨e,n,p,N,w⟩:=I.pin r M;refine⟨(a.2 r.1 ?_).trans e,n,p,N,w⟩;intro q;rw[q,ai]at e;let a:oc=r.2:=pQ e;exact w B (by rw[← a];exact aq)
theorem ya{M:Model}{A:Around}{E:ZB}{i:Nat}{x:Str}{v:V}{u:Value}{Q:Unit->Shared->Prop}(I:Inv X c d H s)(b:X.N.Nodup)(e:X.N[i]?=⇑x)(f:Loc X.env.scope x)(r:RelV v u)
  (h:∀ a,Inv X c (d.set i (⇑v)) H a->Q () a) (g:X.fn x=true\/X.env.scope.names.lookup x=⇑.local:=by bv_normalize):wpAny M A (storeName X.env x u) Q E s :=
 Bd I b e f r (λa j _=>h a j) g
theorem Inv.Yx{a:Shared}{e:WF}(I:Inv X c d H s)(g:a.os=s.os)(u:Un (MU X.stack) e H H' s.heap a.heap)(hok:tK X.prog X.w H' a.heap)(h:AllBare a.gens)
  (i:∀ b∈e,(b∈X.ex\/X.s₀.heap.objs.size<=b)/\b≠X.env.locals/\(∀ x f,X.env.cells.lookup x=⇑f->f≠b)/\∀ p∈X.pn++c,p.1≠b):Inv X c d H' a:=by
 let⟨h',j,k,l,m⟩:=a;let n:m=s.os:=g;subst n;exact I.call (h:=j) (l:=l) (p:=k) u hok h i
end
abbrev XK:=Value->Option Addr->Hp->Prop
abbrev St:=List (Option V)
abbrev VK:=V->Hp->Prop
abbrev TE:=St->Hp->VK->Prop
abbrev TT:=St->Hp->(Bool->Hp->Prop)->Prop
abbrev TA:=St->Hp->(List V->Hp->Prop)->Prop
structure Ends where
 nx:St->Hp->Prop
 rt:VK
 bk:St->Hp->Prop:=λ_ _=>False
 ct:St->Hp->Prop:=λ_ _=>False
abbrev TS:=Ends->St->Hp->Prop
def Ends.sq(D:Ends)(u:TS):Ends:={ D with nx:=u D }
def Ends.lp(D:Ends)(N:St->Hp->Prop):Ends:={ D with nx:=N,ct:=N,bk:=D.nx }
inductive EP(X:Cx)(au:List (Addr × Obj))(σ:St)(Q:VK)(u:Value)(s':Shared):Prop
 | mk (v:V) (a:Hp) (_:Inv X au σ a s') (_:RelV v u) (_:Q v a)
def TP(b:Cx)(c:List (Addr × Obj))(d:St)(Q:Bool->Hp->Prop)(e:Bool)(f:Shared):Prop:=∃ a,Inv b c d a f/\Q e a
inductive AP(X:Cx)(au:List (Addr × Obj))(σ:St)(Q:List V->Hp->Prop)(us:WP)(s':Shared):Prop
 | mk (a:List V) (b:Hp) (_:Inv X au σ b s') (_:cE a us) (_:Q a b)
def SP(c:Cx)(d:List (Addr × Obj))(D:Ends)(f:Flow)(e:Shared):Prop :=
 match f with
 | .next=>∃ b a,Inv c d b a e/\D.nx b a
 | .brk=>∃ b a,Inv c d b a e/\D.bk b a
 | .cont=>∃ b a,Inv c d b a e/\D.ct b a
 | .ret u=>∃ v b a,Inv c d b a e/\RelV v u/\D.rt v a
def PE(a:Cx)(e:Expr)(t:TE):Prop :=
 ∀ (c:List (Addr × Obj)) (s:Shared) (b:St) (H:Hp) (Q:VK),Inv a c b H s->t b H Q->wpAny (model a.prog a.w) a.A (eval e a.env) (EP a c b Q) a.xe s
def PT(a:Cx)(e:Expr)(t:TT):Prop :=
 ∀ (c:List (Addr × Obj)) (s:Shared) (b:St) (H:Hp) (Q:Bool->Hp->Prop),Inv a c b H s->t b H Q->wpAny (model a.prog a.w) a.A (isTrue e a.env (eval e a.env)) (TP a c b Q) a.xe s
def PW(a:Cx)(e:Expr)(t:TT):Prop :=
 ∀ (d:Sem Value) (c:List (Addr × Obj)) (s:Shared) (b:St) (H:Hp) (Q:Bool->Hp->Prop),Inv a c b H s->t b H Q->wpAny (model a.prog a.w) a.A (isTrue e a.env d) (TP a c b Q) a.xe s
theorem PW.pt{a:Cx}{e:Expr}{t:TT}(h:PW a e t):PT a e t:=h _
def PA(a:Cx)(d:List Expr)(t:TA):Prop :=
 ∀ (e:Pos) (c:List (Addr × Obj)) (s:Shared) (b:St) (H:Hp) (Q:List V->Hp->Prop),Inv a c b H s->t b H Q->wpAny (model a.prog a.w) a.A (spliced (backTo e (starEach d a.env))) (AP a c b Q) a.xe s
def PS(a:Cx)(d:Stmt)(t:TS):Prop :=
 ∀ (b:List (Addr × Obj)) (s:Shared) (c:St) (H:Hp) (D:Ends),Inv a b c H s->t D c H->wpAny (model a.prog a.w) a.A (exec d a.env) (SP a b D) a.xe s
def Jh(a:Cx)(d:List Stmt)(t:TS):Prop :=
 ∀ (b:List (Addr × Obj)) (s:Shared) (c:St) (H:Hp) (D:Ends),Inv a b c H s->t D c H->wpAny (model a.prog a.w) a.A (execs d a.env) (SP a b D) a.xe s
theorem dN{a:Type}{t:Sem a}{Q b:a->Shared->Prop}{M:Model}{A:Around}{E:ZB}{s:Shared}(h:wpAny M A t Q E s)(d:∀ c s,Q c s->b c s):wpAny M A t b E s:=wpAny_mono h d λ_ _ x=>x
end _L2
namespace _L2
open Spec Rows
section
variable {X:Cx}
inductive QG(i:Nat)(σ:St)(H:Hp)(Q:VK):Prop
 | mk (v:V) (_:σ[i]?=⇑(⇑v)) (_:Q v H)
inductive d3(x:V)(H:Hp)(Q:Bool->Hp->Prop):Prop
 | mk (f:Bool) (_:x=.bl f) (_:Q f H)
inductive kz(x:V)(H:Hp)(Q:Option Int->Hp->Prop):Prop
 | mk (i:Int) (_:x=.int i) (_:Q (⇑i) H)
def tC(v:V):TE:=λ_ H Q=>Q v H
def Vf{i:Nat}{x:Str}(g:X.N[i]?=⇑x)(j:d0 X.env.scope x)(f:(x == ("__debug__":Str))=false:=by decide)(k:(x == ("__classdict__":Str))=false:=by decide):PE X (.Name x c) (QG i):=by
 intro l s m H Q I h;let⟨v,n,h⟩:=h;let⟨r,o,p⟩:=I.loc;let⟨u,r,q⟩:=p i x v g n j;let b:EP X l m Q u s:=⟨v,H,I,r,h⟩;rcases q with ⟨a,h⟩|⟨a,l,d,e⟩
 ·exact wpAny_Name (wpAny_loadName_local I.ok.kind a o h b) f
 ·rcases a with a|a
  ·exact wpAny_Name (wpAny_loadName_cell I.ok.kind a d e b) f
  ·exact wpAny_Name (wpAny_loadName_free I.ok.kind a d e b k) f
theorem az{i j c}:PE X (.Constant (.int i) j c) (tC (.int i)):=λ_ _ _ H _ I h=>wpAny_Constant_int ⟨.int i,H,I.tok _,⟨Y⟩,h⟩
theorem nF{b j c}:PE X (.Constant (.bool b) j c) (tC (.bl b)):=λ_ _ _ H _ I h=>Constant_bool ⟨.bl b,H,I,1,h⟩
theorem Vg{j c}:PE X (.Constant .none j c) (tC .gc):=λ_ _ _ H _ I h=>Constant_none ⟨.gc,H,I,1,h⟩
theorem bw{x j c}:PE X (.Constant (.str x) j c) (tC (.str x)):=λ_ _ _ H _ I h=>Calls.Constant_str ⟨.str x,H,I.tok _,⟨Y⟩,h⟩
def Gl(X:Cx)(x:Str):Prop:=X.env.kindOf x=some .globalImplicit
theorem xO{E:ZB}{s:Shared}{f:St}{H:Hp}{x:Str}{u:Value}{Q:ZB}(I:Inv X k f H s)(g:Gl X x)(h:X.mg x=⇑u)(i:Q u s)
  (j:(x == ("__debug__":Str))=false:=by decide):wpAny (model X.prog X.w) X.A (eval (.Name x c) X.env) Q E s :=
 Calls.Name_function_global I.ok.kind g (Calls.loadGlobal_global (by rw[I.ok.glob];exact I.mod.glob.keeps I.bk) h i) j
theorem vc{E:ZB}{s:Shared}{f:St}{H:Hp}{x:Str}{u:Value}{Q:ZB}(I:Inv X m f H s)(g:Gl X x)(h:X.mg x=none)(i:bootBuiltins x=⇑u)(j:Q u s)
  (k:x≠"__name__":=by decide) (l:(x == ("__debug__":Str))=false:=by decide):wpAny (model X.prog X.w) X.A (eval (.Name x c) X.env) Q E s:=by
 let⟨d,a,b⟩:=I.mod.blt;exact Calls.Name_function_global I.ok.kind g (Calls.loadGlobal_builtin (by rw[I.ok.glob];exact I.mod.glob.keeps I.bk) h (by rw[I.ok.blt];exact a.keeps I.bk) ((b x k).trans i) j) l
def Cv{x:Str}{v:V}{u:Value}(f:Gl X x)(g:X.mg x=⇑u)(r:RelV v u)(h:(x == ("__debug__":Str))=false:=by decide):PE X (.Name x c) (tC v) :=
 λ_ _ _ H _ I a=>xO I f g ⟨v,H,I,r,a⟩ h
theorem QH{x:Str}{v:V}{u:Value}(f:Gl X x)(g:X.mg x=none)(h:bootBuiltins x=⇑u)(r:RelV v u)(i:x≠"__name__":=by decide)(j:(x == ("__debug__":Str))=false:=by decide):PE X (.Name x c) (tC v) :=
 λ_ _ _ H _ I a=>vc I f g h ⟨v,H,I,r,a⟩ i j
variable {a b:Expr} {d tb:TE} {c:Pos}
def PC(X:Cx)(f:CmpOp)(a b:Expr)(t:TE):Prop :=
 ∀ (d:List (Addr × Obj)) (s:Shared) (c:St) (H:Hp) (Q:VK),Inv X d c H s->t c H Q->
  wpAny (model X.prog X.w) X.A (eval a X.env) (λv e=>wpAny (model X.prog X.w) X.A (eval b X.env) (λu g=>wpAny (model X.prog X.w) X.A (compareOp f v u) (EP X d c Q) X.xe g) X.xe e) X.xe s
def D8(b:Expr){f:CmpOp}(h:f≠.In)(g:f≠.NotIn):behindInMarks f b=false:=by
 let a:(f == CmpOp.In)=false:=by cases f <;> first|rfl|exact absurd rfl h
 let c:(f == CmpOp.NotIn)=false:=by cases f <;> first|rfl|exact absurd rfl g
 cases b <;> simp[behindInMarks,a,c]
def kA(d:TE):TE:=fun a H Q=>d a H λx a=>Q (.bl (decide (x=.gc))) a
def Yy(d:TE):TE:=fun a H Q=>d a H λx a=>Q (.bl (!decide (x=.gc))) a
def RelV.D9{x:V}{v:Value}(r:RelV x v):(v == Value.none)=decide (x=.gc):=by
 cases x with
 | gc=>cases r;rfl
 | bl _=>cases r;rfl
 | int _=>let⟨t,rfl⟩:=r;rfl
 | str _=>let⟨t,rfl⟩:=r;rfl
 | GR _=>let⟨t,rfl⟩:=r;rfl
 | TX _=>let⟨t,rfl⟩:=r;rfl
 | ref _=>cases r;rfl
 | ty _=>cases r;rfl
def GS{j f}(g:PE X a d):PC X .Is a (.Constant .none j f) (kA d):=by
 intro b s c H Q I h;refine dN (g b s c H _ I h) λv c b=>?_;let⟨x,c,e,h,i⟩:=b;exact Constant_none (is_none_gen ⟨.bl _,c,e,by rw[h.D9];rfl,i⟩)
def QI{j f}(g:PE X a d):PC X .IsNot a (.Constant .none j f) (Yy d):=by
 intro b s c H Q I h;refine dN (g b s c H _ I h) λv c b=>?_;let⟨x,c,e,h,i⟩:=b;exact Constant_none (isnot_none_gen ⟨.bl _,c,e,by rw[h.D9];rfl,i⟩)
def tB(t:TE):TT:=fun a H Q=>t a H λx a=>d3 x a Q
def MX{f:CmpOp}{t:TE}(h:PC X f a b t)(g:behindInMarks f b=false:=by ac_nf):PE X (.Compare a [f] [b] c) t:=λd s e H Q I i=>wpAny_Compare1 (h d s e H Q I i) g
def Cw{f:CmpOp}{t:TE}(h:PC X f a b t)(g:behindInMarks f b=false:=by ac_nf):PT X (.Compare a [f] [b] c) (tB t):=by
 intro d s e H Q I i;refine wpAny_isTrue_Compare1 (dN (h d s e H _ I i) λv d g=>dN g λu e d=>dN d λd e ⟨x,j,k,l,m⟩=>?_) g;let⟨n,rfl,q⟩:=m;cases l;exact wpAny_truthy_bool ⟨j,k,q⟩
def mh{f:Expr}{t:TE}(h:PE X f t)(i:∀ g,isTrue f X.env g=(do let v ← g;standAt f.pos;holding [v] (truthy v)):=by intro _;rfl):PT X f (tB t):=by
 intro a s b H Q I c;refine isTrue_plain (dN (h a s b H _ I c) λv a ⟨x,d,e,j,k⟩=>?_) (i _);let⟨l,rfl,q⟩:=k;cases j;exact wpAny_truthy_bool ⟨d,e,q⟩
variable {e d4:TT} {tN:List Expr}
def kS(t u:TT):TT:=fun a H Q=>t a H λc b=>if c=true then u a b Q else Q false b
def k0(t u:TT):TT:=fun a H Q=>t a H λc b=>if c=true then Q true b else u a b Q
def k'(t:TT):TT:=fun a H Q=>t a H λc a=>Q (!c) a
def mW(f:PT X a e):PW X (.BoolOp .And [a] c) e:=by
 intro j d s g H Q I h;refine isTrue_and (dN (f d s g H Q I h) λi d b=>?_)
 cases i with
 | true=>exact isTrue_and_nil b
 | false=>exact b
def Cy(f:PT X a e):PW X (.BoolOp .Or [a] c) e:=by
 intro j d s g H Q I h;refine isTrue_or (dN (f d s g H Q I h) λi d b=>?_)
 cases i with
 | false=>exact isTrue_or_nil b
 | true=>exact b
def pS(j:PT X a e)(k:PW X (.BoolOp .And (b::tN) c) d4):PW X (.BoolOp .And (a::b::tN) c) (kS e d4):=by
 intro l d s f H Q I m;refine isTrue_and (dN (j d s f H _ I m) λn o m=>?_);let⟨g,h,i⟩:=m
 cases n with
 | true=>exact k l d o f g Q h i
 | false=>exact⟨g,h,i⟩
def Ec(j:PT X a e)(k:PW X (.BoolOp .Or (b::tN) c) d4):PW X (.BoolOp .Or (a::b::tN) c) (k0 e d4):=by
 intro l d s f H Q I m;refine isTrue_or (dN (j d s f H _ I m) λn o m=>?_);let⟨g,h,i⟩:=m
 cases n with
 | true=>exact⟨g,h,i⟩
 | false=>exact k l d o f g Q h i
def kZ(f:PT X a e):PT X (.UnaryOp .Not a c) (k' e):=by
 intro b s d H Q I h;exact isTrue_not (f b s d H (λb d=>Q (!b) d) I h)
def Yz(d tb:TE):TE:=fun b H Q=>d b H λx a=>d3 x a λc a=>if c=true then tb b a Q else Q (.bl false) a
def YA(d:TE):TE:=fun a H Q=>d a H λx a=>d3 x a λc a=>Q (.bl (!c)) a
theorem pT{f}{t:TE}(h:PE X a t):PE X (.BoolOp f [a] c) t:=λb s d H Q I e=>BoolOp_one (h b s d H Q I e)
def oh(j:PE X a d)(k:PE X (.BoolOp .And (b::tN) c) tb):PE X (.BoolOp .And (a::b::tN) c) (Yz d tb):=by
 intro f s g H Q I l;refine BoolOp_and (dN (j f s g H _ I l) λv m l=>?_);let⟨x,h,i,n,e⟩:=l;let⟨o,rfl,e⟩:=e;cases n;refine wpAny_truthy_bool ?_
 cases o with
 | true=>exact k f m g h Q i e
 | false=>exact⟨.bl false,h,i,1,e⟩
def Vh(f:PE X a d):PE X (.UnaryOp .Not a c) (YA d):=by
 intro e s g H Q I h;refine UnaryOp_ (dN (f e s g H _ I h) λv g e=>?_);let⟨x,i,j,k,b⟩:=e;let⟨l,rfl,b⟩:=b;cases k;exact not_of (wpAny_truthy_bool ⟨.bl (!l),i,j,1,b⟩)
def lh(t:TT)(d tb:TE):TE:=fun a H Q=>t a H λc b=>if c=true then d a b Q else tb a b Q
def Ef{h:Expr}(m:PT X h e)(n:PE X a d)(o:PE X b tb):PE X (.IfExp h a b c) (lh e d tb):=by
 intro f s g H Q I p;refine wpAny_IfExp (dN (m f s g H _ I p) λq i p=>?_);let⟨j,k,l⟩:=p
 cases q with
 | true=>exact n f i g j Q k l
 | false=>exact o f i g j Q k l
end
end _L2
namespace _L2
open Spec Rows
def bL(K:Frag)(H:Hp)(b:Addr)(c:List V):Prop :=
 Rd H b (.lst c)\/
  ∃ (o:Obj) (a:Xt) (n:Nat),K.lookup b=⇑o/\o.cls=.type "list"/\o.dict=none/\o.data=.seq a n/\a.size<=sizeLine/\cE c a.toList
def dO(K:Frag)(H:Hp)(b:Addr)(c:List V):Prop :=
 Rd H b (.tup c)\/
  ∃ (o:Obj) (a:Xt) (n:Nat),K.lookup b=⇑o/\o.cls=.type "tuple"/\o.data=.seq a n/\a.size<=sizeLine/\cE c a.toList
def lj:Value->Option V
 | .none=>⇑.gc
 | .bool b=>⇑(.bl b)
 | .int i _=>⇑(.int i)
 | .str x _=>⇑(.str x)
 | .bytes b _=>⇑(.GR b)
 | .float b _=>⇑(.TX b)
 | .ref a=>⇑↥a
 | .type n=>⇑(.ty n)
 | _=>none
def RelV.abs{x:V}{u:Value}(r:RelV x u):lj u=⇑x:=by
 cases x with
 | gc=>cases r;rfl
 | bl _=>cases r;rfl
 | int _=>let⟨t,rfl⟩:=r;rfl
 | str _=>let⟨t,rfl⟩:=r;rfl
 | GR _=>let⟨t,rfl⟩:=r;rfl
 | TX _=>let⟨t,rfl⟩:=r;rfl
 | ref _=>cases r;rfl
 | ty _=>cases r;rfl
theorem RelV.inj{x y:V}{u:Value}(r:RelV x u)(q:RelV y u):x=y:=pQ (r.abs.symm.trans q.abs)
theorem cE.inj:∀ {a b:List V} {c:WP},cE a c->cE b c->a=b
 | _,_,_,.nil,.nil=>rfl
 | _,_,_,.cons r t,.cons d e=>by rw[r.inj d,cE.inj t e]
section
variable {X:Cx} {au:List (Addr × Obj)} {σ:St} {H:Hp} {s:Shared} {a:Addr} {xs ys:List V}
theorem bL.of{K:Frag}(h:H a=⇑(.lst xs)):bL K H a xs:=.inl (.inl h)
theorem dO.of{K:Frag}(h:H a=⇑(.tup xs)):dO K H a xs:=.inl (.inl h)
def Inv.list(I:Inv X au σ H s)(h:bL X.K H a xs):∃ b:List Value,cE xs b/\PlainL s.heap a b.toArray/\↑xs<=sizeLine:=by
 rcases h with h|⟨o,b,n,c,d,f,g,e,r⟩
 ·let⟨z,b,n,r,e⟩:=h.ok I.hok;exact⟨b,r,⟨_,n,e,V,1⟩,z⟩
 ·refine⟨b.toList,r,⟨o,n,I.we a o c,d,f,by simpa using g⟩,?_⟩;let e:=↑r;simp only[Array.length_toList]at e;lia
def Inv.tuple(I:Inv X au σ H s)(h:dO X.K H a xs):∃ b:List Value,cE xs b/\IsTup s.heap a b.toArray/\↑xs<=sizeLine:=by
 rcases h with h|⟨o,b,n,c,d,e,f,r⟩
 ·let⟨z,b,r,p⟩:=h.ok I.hok;exact⟨b,r,p,z⟩
 ·refine⟨b.toList,r,⟨o,I.we a o c,d,n,by simpa using e⟩,?_⟩;let e:=↑r;simp only[Array.length_toList]at e;lia
def Inv.Eg(I:Inv X au σ H s)(h:bL X.K H a xs)(d:bL X.K H a ys):xs=ys:=by
 let⟨e,r,⟨o,n,f,_,_,g⟩,_⟩:=I.list h;let⟨i,j,⟨k,l,b,_,_,c⟩,_⟩:=I.list d;rw[f]at b;cases b;rw[g]at c;injection c with b _;have:e=i:=by simpa using congrArg Array.toList b
 subst this;exact r.inj j
def Inv.Be(I:Inv X au σ H s)(h:dO X.K H a xs)(d:dO X.K H a ys):xs=ys:=by
 let⟨e,r,⟨o,f,_,n,g⟩,_⟩:=I.tuple h;let⟨i,j,⟨k,b,_,l,c⟩,_⟩:=I.tuple d;rw[f]at b;cases b;rw[g]at c;injection c with b _;have:e=i:=by simpa using congrArg Array.toList b
 subst this;exact r.inj j
end
abbrev Cx.Ay(a:Cx)(E:ZB):Cx:={ a with xe:=E }
abbrev Cx.Ji(a:Cx):Cx:=a.Ay λ_ _=>False
theorem Cx.Ok.Ay{b:Cx}(a:b.Ok)(E:ZB):(b.Ay E).Ok :=
 ⟨a.mod,a.kind,a.glob,a.blt,a.above,a.inj,a.has,a.Yu,a.hd,a.frames,a.stk,a.gb,a.bs,a.TZ,a.MV,a.QF,a.xr,a.Vd⟩
theorem Cx.Ok.pU{b:Cx}{E:ZB}(a:(b.Ay E).Ok):b.Ok :=
 ⟨a.mod,a.kind,a.glob,a.blt,a.above,a.inj,a.has,a.Yu,a.hd,a.frames,a.stk,a.gb,a.bs,a.TZ,a.MV,a.QF,a.xr,a.Vd⟩
section
variable {X:Cx} {au:List (Addr × Obj)} {σ:St} {H:Hp} {s:Shared} {E:ZB}
theorem Inv.Ay(I:Inv X au σ H s)(E:ZB):Inv (X.Ay E) au σ H s:=⟨I.ok.Ay E,I.os,I.bare,I.zt,I.loc,I.cell,I.free,I.rj,I.pin,I.hok,I.len⟩
theorem Inv.pU(I:Inv (X.Ay E) au σ H s):Inv X au σ H s:=⟨I.ok.pU,I.os,I.bare,I.zt,I.loc,I.cell,I.free,I.rj,I.pin,I.hok,I.len⟩
def SP.pU{D:Ends}{f:Flow}{c:Shared}(h:SP (X.Ay E) au D f c):SP X au D f c:=by
 cases f with
 | next=>let⟨a,b,I,q⟩:=h;exact⟨a,b,I.pU,q⟩
 | brk=>let⟨a,b,I,q⟩:=h;exact⟨a,b,I.pU,q⟩
 | cont=>let⟨a,b,I,q⟩:=h;exact⟨a,b,I.pU,q⟩
 | ret u=>let⟨v,a,b,I,r,q⟩:=h;exact⟨v,a,b,I.pU,r,q⟩
theorem Jh.Ji{a:List Stmt}{t:TS}(h:Jh X.Ji a t):Jh X a t:=λau s σ H D I b =>
 wpAny_mono (h au s σ H D (I.Ay _) b) (λ_ _ q=>q.pU) λ_ _ z=>False.elim z
end
section
variable {X:Cx} {st:Stmt} {tN:List Stmt} {t u:TS} {e:Expr} {te:TE} {pos:Pos}
def YB:TS:=λD a H=>D.nx a H
def lm(t u:TS):TS:=λD a H=>t (D.sq u) a H
theorem bg:Jh X [] YB:=λ_ _ a H _ I h=>wpAny_execs_nil ⟨a,H,I,h⟩
def aj(b:PS X st t)(c:Jh X tN u):Jh X (st::tN) (lm t u):=by
 intro a s d H D I h;refine wpAny_execs_cons (dN (b a s d H (D.sq u) I h) λf e q=>?_)
 cases f with
 | next =>
  let⟨d,f,g,q⟩:=q;exact c a e d f D g q
 | ret v=>exact q
 | brk=>exact q
 | cont=>exact q
def ay(a:PS X st t):Jh X [st] t:=by
 intro b s c H D I h;refine wpAny_execs_cons (dN (a b s c H D I h) λf b q=>?_)
 cases f with
 | next=>exact wpAny_execs_nil q
 | ret v=>exact q
 | brk=>exact q
 | cont=>exact q
def YC:TS:=λD a H=>D.ct a H
theorem Eh:PS X (.Continue pos) YC:=λ_ _ a H _ I h=>wpAny_Continue ⟨a,H,I,h⟩
def Inv.quiet{a:St}{H:Hp}{s:Shared}(I:Inv X b a H s):interactive X.env=false:=by simp[interactive,I.ok.kind]
def YD(te:TE):TS:=λD a H=>te a H λ_ b=>D.nx a b
def aT(b:PE X e te)(c:swapsWith e none pos.line X.env=pure false:=by rfl):PS X (.Expr e pos) (YD te):=by
 intro d s a H D I h;exact wpAny_Expr_any (dN (b d s a H _ I h) λv h ⟨x,d,f,i,g⟩=>⟨a,d,f,g⟩) I.quiet c
def lq(te:TE):TS:=λD a H=>te a H D.rt
def aM(b:PE X e te):PS X (.Return (⇑e) pos) (lq te):=by
 intro c s a H D I h;exact wpAny_Return_some (dN (b c s a H _ I h) λv h ⟨x,c,d,f,g⟩=>⟨x,a,c,d,f,g⟩)
def lw(c:TT)(t u:TS):TS:=λD a H=>c a H λd b=>if d=true then t D a b else u D a b
def bO{c:Expr}{d f:List Stmt}{g:TT}(k:PT X c g)(l:Jh X d t)(m:Jh X f u):PS X (.If c d f pos) (lw g t u):=by
 intro a s b H D I n;refine wpAny_If (dN (k a s b H _ I n) λo e n=>?_);let⟨h,i,j⟩:=n
 cases o with
 | true=>exact l a e b h D i j
 | false=>exact m a e b h D i j
def Vi:TS:=λ_ _ _=>False
theorem iG:PS X st Vi:=λ_ _ _ _ _ _ h=>h.elim
end
abbrev TG:=V->St->Hp->(St->Hp->Prop)->Prop
abbrev Vj:=List V->St->Hp->(St->Hp->Prop)->Prop
def PG(a:Cx)(e:Expr)(t:TG):Prop :=
 ∀ (b:List (Addr × Obj)) (s:Shared) (c:St) (H:Hp) (v:V) (u:Value) (Q:St->Hp->Prop),Inv a b c H s->RelV v u->t v c H Q->
  wpAny (model a.prog a.w) a.A (assign e a.env u) (λ_ f=>∃ c d,Inv a b c d f/\Q c d) a.xe s
def YE(a:Cx)(f:List Expr)(t:Vj):Prop :=
 ∀ (b:List (Addr × Obj)) (s:Shared) (c:St) (H:Hp) (d:List V) (e:WP) (Q:St->Hp->Prop),Inv a b c H s->cE d e->t d c H Q->
  wpAny (model a.prog a.w) a.A (assignInOrder ((assignEach f a.env).map (·.2)) e) (λ_ e=>∃ c d,Inv a b c d e/\Q c d) a.xe s
abbrev Vk:=V->V->V->Hp->(Hp->Prop)->Prop
def YF(a:Cx)(t:Vk):Prop :=
 ∀ (b:List (Addr × Obj)) (s:Shared) (c:St) (H:Hp) (o i v:V) (d e u:Value) (Q:Hp->Prop),Inv a b c H s->RelV o d->RelV i e->RelV v u->t o i v H Q->
  wpAny (model a.prog a.w) a.A (setItem d e u) (λ_ e=>∃ d,Inv a b c d e/\Q d) a.xe s
abbrev d5:=V->V->Hp->VK->Prop
def eM(a:Cx)(d:Operator)(t:d5):Prop :=
 ∀ (b:List (Addr × Obj)) (s:Shared) (c:St) (H:Hp) (x y:V) (v u:Value) (Q:VK),Inv a b c H s->RelV x v->RelV y u->t x y H Q->
  wpAny (model a.prog a.w) a.A (inplaceOp d v u) (EP a b c Q) a.xe s
section
variable {X:Cx} {pos:Pos}
def pV(i:Nat):TG:=λv a H Q=>Q (a.set i (⇑v)) H
def QJ{i:Nat}{x:Str}(a:X.N.Nodup)(b:X.N[i]?=⇑x)(c:Loc X.env.scope x)(d:X.fn x=true\/X.env.scope.names.lookup x=⇑.local:=by bv_normalize):PG X (.Name x pos) (pV i):=by
 intro e s f H v u Q I r h;exact wpAny_assign_Name (ya I a b c r (λf e=>⟨_,H,e,h⟩) d)
def lx:Vj:=λa b H Q=>a=[]/\Q b H
inductive YG(t:TG)(u:Vj)(vs:List V)(σ:St)(H:Hp)(Q:St->Hp->Prop):Prop
 | mk (v:V) (r:List V) (_:vs=v::r) (_:t v σ H fun σ' H'=>u r σ' H' Q)
def gB:YE X [] lx:=by
 intro b s a H c d Q I r h;let⟨e,h⟩:=h;subst e;cases r;exact assignInOrder_nil ⟨a,H,I,h⟩
theorem bS{e:Expr}{a:List Expr}{t:TG}{u:Vj}(c:PG X e t)(d:YE X a u)
  (f:(assignEach (e::a) X.env).map (·.2)=assign e X.env::(assignEach a X.env).map (·.2):=by rfl):YE X (e::a) (YG t u):=by
 intro b s g H j k Q I r h;let⟨v,j,i,h⟩:=h;subst i
 cases r with
 | cons r i =>
  rw[f];refine assignInOrder_cons (dN (c b s g H _ _ _ I r h) λ_ g h=>?_);let⟨j,k,l,m⟩:=h;exact d b g j k _ _ Q l i m
inductive Vl(K:Frag)(n:Nat)(t:Vj)(v:V)(σ:St)(H:Hp)(Q:St->Hp->Prop):Prop
 | mk (a:Addr) (b:List V) (_:v=↥a) (_:dO K H a b) (_:↑b=n) (_:t b σ H Q):Vl K n t v σ H Q
theorem lg{a:List Expr}{k:Nat}{t:Vj}{n:Nat}(g:X.calm=true)(h:YE X a t)
  (i:↑(assignEach a X.env)=n:=by rfl) (j:(assignEach a X.env).findIdx? (·.1)=none:=by rfl):PG X (.Tuple a k pos) (Vl X.K n t):=by
 intro c s d H v u Q I r b;let⟨o,l,e,f,m,b⟩:=b;subst e;cases r;let⟨p,e,o,q⟩:=I.tuple f;refine assign_Tuple_tuple (I.ok.hd g) o (by simp[i,← m,e.length]) j λf m=>?_;have o:Inv X c d H { s with heap:=f }:=I.kept (t':=s.toks) λp q f=>m p q (jN (Heap.lt_size f)) f;exact h c _ d H l _ Q o (by simpa using e) b
def lz(b c:TE)(t:Vk):TG:=λv a H Q=>b a H λo d=>c a d λi d=>t o i v d λd=>Q a d
theorem pW{o i:Expr}{e f:TE}{t:Vk}(g:PE X o e)(h:PE X i f)(j:YF X t)
  (k:∀ v,assign (.Subscript o i pos) X.env v=(do
   let a ← holding [v] (eval o X.env)
   let b ← holding [v,a] (eval i X.env)
   standAt pos
   holding [v,a,b] (setItem a b v)
   release [v,a,b] []):=by intro _;rfl):PG X (.Subscript o i pos) (lz e f t):=by
 intro d s c H v u Q I r l;rw[k];refine wpAny_bind (wpAny_holding (dN (g d s c H _ I l) λa l m=>?_));let⟨x,n,p,q,w⟩:=m;refine wpAny_bind (wpAny_holding (dN (h d l c n _ p w) λb l m=>?_));let⟨y,n,p,w,z⟩:=m;refine wpAny_bind (wpAny_standAt (wpAny_bind (wpAny_holding (dN (j d l c n x y v a b u _ p q w r z) λ_ l d=>?_))));let⟨l,m,n⟩:=d;exact wpAny_release ⟨c,l,m,n⟩
def MY(b:TE)(g:TG):TS:=λD a H=>b a H λx c=>g x a c D.nx
theorem ng{e:Expr}{b:TE}{g:TG}(f:PE X e b)(h:PG X a g)(i:swapsWithSole [a] e pos.line X.env=pure false:=by rfl)(j:swappedStores [a] e X.env=pure none:=by rfl)
  (k:(assignEach [a] X.env).map (·.2)=[assign a X.env]:=by rfl):PS X (.Assign [a] e pos) (MY b g):=by
 intro c s d H D I l;refine wpAny_Assign_stores (dN (f c s d H _ I l) λv l ⟨x,m,n,o,p⟩=>?_) i j;rw[k];exact dN (h c l d m x v _ n o p) λ_ c q=>q
theorem Vm{i:Nat}{x:Str}{e:Expr}{a:TE}(b:X.N.Nodup)(c:X.N[i]?=⇑x)(d:Loc X.env.scope x)(f:PE X e a)(g:swapsWith e (⇑(.Name x h)) pos.line X.env=pure false:=by rfl)(j:X.fn x=true\/X.env.scope.names.lookup x=⇑.local:=by bv_normalize) :
  PS X (.Assign [.Name x h] e pos) (MY a (pV i)):=by
 intro k s l H D I m;refine wpAny_Assign_Name (dN (f k s l H _ I m) λv o ⟨y,k,l,m,n⟩=>?_) g;exact ya l b c d m (λm l=>⟨_,k,l,n⟩) j
def lM(i:Nat)(b:TE)(c:d5):TS:=λD a H=>∃ x,a[i]?=⇑(⇑x)/\b a H λy d=>c x y d λz d=>D.nx (a.set i (⇑z)) d
def rZ{i:Nat}{x:Str}{e:Expr}{f:TE}{b:Operator}{g:d5}{n:Pos}(o:X.N.Nodup)(j:X.N[i]?=⇑x)(c:Loc X.env.scope x)(p:PE X e f)(q:eM X b g)(t:X.fn x=true\/X.env.scope.names.lookup x=⇑.local:=by bv_normalize) :
  PS X (.AugAssign (.Name x n) b e pos) (lM i f g):=by
 intro d s l H D I h;let⟨v,w,h⟩:=h;let⟨r,y,z⟩:=I.loc;let A:d0 X.env.scope x:=by rcases c with k|k;exact .inl k;exact .inr (.inl k)
 let⟨u,r,B⟩:=z i x v j w A;refine wpAny_AugAssign_Name ?_
 let m:wpAny (model X.prog X.w) X.A (eval e X.env) (λw a=>wpAny (model X.prog X.w) X.A (inplaceOp b u w) (λr z=>wpAny (model X.prog X.w) X.A (storeName X.env x r) (λ_=>SP X d D .next) X.xe z) X.xe a) X.xe s:=by
  refine dN (p d s l H _ I h) λw a h=>?_;let⟨z,A,C,D,F⟩:=h;refine dN (q d a l A v z u w _ C r D F) λz d a=>?_;let⟨u,d,h,l,r⟩:=a;exact ya h o j c l (λh a=>⟨_,d,a,r⟩) t
 rcases B with ⟨a,d⟩|⟨a,h,C,F⟩
 ·exact wpAny_loadName_local I.ok.kind a y d m
 ·rcases a with a|a
  ·exact wpAny_loadName_cell I.ok.kind a C F m
  ·rcases c with k|k
   ·have:X.env.scope.names.lookup x=⇑.free:=a;rw[k]at this;cases this
   ·have:X.env.scope.names.lookup x=⇑.free:=a;rw[k]at this;cases this
def lR(f:Int->Int->Int):d5:=λx y H Q=>∃ i j,x=.int i/\y=.int j/\Q (.int (f i j)) H
def MZ:eM X .Add (lR λi j=>i+j):=by
 intro e s f H x y v u Q I a b h;let⟨i,j,c,d,q⟩:=h;subst c;subst d;let⟨t,rfl⟩:=a;let⟨g,rfl⟩:=b;exact iadd_int ⟨.int _,H,I.tok _,⟨Y⟩,q⟩
end
section
variable {X:Cx} {pos:Pos}
def Vn(f:TT)(g:TS):TS:=λD a H=>∃ W:Nat->St->Hp->Prop,(∃ m,W m a H)/\∀ m a H,W m a H->
 f a H λc b=>if c=true then ∃ N:St->Hp->Prop,(∀ c d,N c d->∃ e,e<m/\W e c d)/\g (D.lp N) a b else D.nx a b
def nG{k:Expr}{l:TT}{m:TS}(o:PassesOwn (model X.prog X.w) X.A X.env X.xe)(t:PT X k l)(u:Jh X v m):PS X (.While k v [] pos) (Vn l m):=by
 intro a s f H D I h;let⟨W,⟨g,i⟩,j⟩:=h;refine wpAny_While (codeAny_whileLoop (λn d=>∃ b c,Inv X a b c d/\W n b c) ?_ g ⟨f,H,I,i⟩);rintro n f ⟨c,b,g,h⟩;refine wpAny_passesOwn o (dN (t a f c b _ g (j n c b h)) λw x b=>?_);let⟨p,q,d⟩:=b
 cases w with
 | true =>
  let⟨N,r,d⟩:=d;rw[if_pos rfl];refine wpAny_passesOwn o (dN (u a x c p _ q d) λy a e=>?_)
  cases y with
  | next =>
   let⟨a,b,f,g⟩:=e;let⟨h,i,j⟩:=r a b g;exact⟨h,i,a,b,f,j⟩
  | cont =>
   let⟨a,b,f,g⟩:=e;let⟨h,i,j⟩:=r a b g;exact⟨h,i,a,b,f,j⟩
  | brk=>exact e
  | ret a=>exact e
 | false =>
  rw[if_neg lT];exact wpAny_execs_nil ⟨c,p,q,d⟩
end
structure It where
 go:Nat->Hp->Prop
 M0:Nat->Hp->V->Hp->Prop
 stop:Nat->Hp->Prop
def oj(a:Cx)(d:List (Addr × Obj))(H:Hp)(b:Addr):Prop :=
 H b=none/\b≠a.env.locals/\b∉a.fs/\(b∈a.ex\/a.s₀.heap.objs.size<=b)/\(∀ x c,a.env.cells.lookup x=⇑c->c≠b)/\∀ p∈a.pn++d,p.1≠b
def Inv.Kz{c:Cx}{e:St}{H d:Hp}{s:Shared}{b:Addr}(I:Inv c f e H s)(a:s.heap.objs.size<=b)(g:d b=none):oj c f d b:=by
 refine⟨g,Nat.ne_of_gt (pP I.lt a),I.kx a,.inr (iC I.sz a),λx h i z=>?_,λp j z=>?_⟩
 ·let⟨v,q⟩:=I.cell x h i;exact absurd (pP q.lt (by rw[z];exact a)) (Nat.lt_irrefl _)
 ·exact absurd (pP (Heap.lt_size (I.pin p j).1) (by rw[z];exact a)) (Nat.lt_irrefl _)
structure GX(P:Program)(w:World)(K:Frag)(tg:Expr)(J:It)(fp:WF)(it:Addr)(tn:Nat->Heap->Prop):Prop where
 mem:it∈fp
 obj:∀ i h,tn i h->∀ b∈fp,∃ o,h.get? b=⇑o/\∀ v,o.data≠.cell v
 keep:∀ i h h',tn i h->(∀ b∈fp,∀ o,h.get? b=⇑o->h'.get? b=⇑o)->tn i h'
 item:∀ (X:Cx),X.prog=P->X.w=w->X.K=K->X.calm=true->∀ (i:Nat) (au:List (Addr × Obj)) (s:Shared) (σ:St) (H:Hp) (E:ZB),Inv X au σ H s->(∀ b∈fp,oj X au H b)->tn i s.heap->J.go i H->
  wpAny (model P w) X.A (pyNext ↥it) (λr s1=>∃ u,r=⇑u/\
   wpAny (model P w) X.A (letOwnedTupleGo tg ↥it u) (λ_ s2=>∃ x H',Inv X au σ H' s2/\RelV x u/\J.M0 i H x H'/\tn (i+1) s2.heap/\∀ b∈fp,H' b=none) E s1) E s
 done:∀ (X:Cx),X.prog=P->X.w=w->X.K=K->X.calm=true->∀ (i:Nat) (au:List (Addr × Obj)) (s:Shared) (σ:St) (H:Hp) (E:ZB),Inv X au σ H s->(∀ b∈fp,oj X au H b)->tn i s.heap->J.stop i H->
  wpAny (model P w) X.A (pyNext ↥it) (λr s1=>r=none/\Inv X au σ H s1) E s
 self:∀ (A:Around) (i:Nat) (s:Shared) (Q:ZB) (E:ZB),tn i s.heap->Q ↥it s->wpAny (model P w) A (pyIter ↥it) Q E s
abbrev TI:=St->Hp->(It->Hp->Prop)->Prop
def eP(a:Cx)(c:List (Addr × Obj))(h:St)(i:Expr)(j:It->Hp->Prop)(k:Value)(d:Shared):Prop :=
 ∃ (e:Addr) (f:WF) (g:Nat->Heap->Prop) (J:It) (b:Hp),k=↥e/\Inv a c h b d/\GX a.prog a.w a.K i J f e g/\g 0 d.heap/\(∀ l∈f,oj a c b l)/\j J b
def PI(a:Cx)(d e:Expr)(f:TI):Prop :=
 ∀ (c:List (Addr × Obj)) (s:Shared) (b:St) (H:Hp) (R:It->Hp->Prop),Inv a c b H s->f b H R->
  wpAny (model a.prog a.w) a.A (eval e a.env) (λv g=>wpAny (model a.prog a.w) a.A (pyIter v) (eP a c b d R) a.xe g) a.xe s
theorem Ei{M:Model}{A:Around}{E:ZB}{s:Shared}{b:Addr}{u:Value}{o:Obj}{n:String}{c:Xt}{Q:Unit->Shared->Prop}(d:s.heap.get? b=⇑o)(e:o.cls=.type n)(f:o.data=.fields c)
  (g:["enumerate","zip","dict_itemiterator","dict_reverseitemiterator","odict_iterator","itertools.zip_longest","itertools.pairwise"].contains n=false) (a:Q () s):wpAny M A (letOwnedTupleGo i ↥b u) Q E s:=by
 unfold letOwnedTupleGo
 cases i <;> first
  | exact wpAny_pure a
  | (cases u <;> first
    | exact wpAny_pure a
    | (refine wpAny_bind (wpAny_load d ?_);rw[e,f];show wpAny M A (if (["enumerate","zip","dict_itemiterator","dict_reverseitemiterator","odict_iterator","itertools.zip_longest","itertools.pairwise"].contains n&&c[0]? == some (rawInt _))=true then _ else _) Q E s;rw[if_neg (by intro h;rw[g,Bool.false_and]at h;cases h)];exact wpAny_pure a))
def M4(K:Frag)(b:Addr):It :=
 ⟨λi H=>∃ a x,bL K H b a/\a[i]?=⇑x,λi H x c=>c=H/\∀ a,bL K H b a->a[i]?=⇑x,λi H=>∃ a,bL K H b a/\↑a<=i⟩
def YI(K:Frag)(b:Addr):It :=
 ⟨λi H=>∃ a x,dO K H b a/\a[i]?=⇑x,λi H x c=>c=H/\∀ a,dO K H b a->a[i]?=⇑x,λi H=>∃ a,dO K H b a/\↑a<=i⟩
def Jj(lo:Int)(n:Nat):It:=⟨λi _=>i<n,λi H x a=>a=H/\x=.int (lo+i),λi _=>n<=i⟩
theorem KA{P:Program}{J:World}{K:Frag}(z b:Addr):GX P J K tg (M4 K z) [b] b (λi h=>h.IsListIter b z i) where
 mem:=by simp
 obj:=λi h a c d=>by
  let e:c=b:=by simpa using d
  subst e;let⟨o,e,A,k⟩:=a;exact⟨o,e,λv f=>by rw[k]at f;cases f⟩
 keep:=λi h f a F=>a.at λo e=>F b (by simp) o e
 item:=by
  intro X l m n B i C s D H E I g a p;subst l m n;let⟨L,M,j,q⟩:=p;let⟨N,r,t,O⟩:=I.list j;let⟨F,G,R⟩:=r.get q;let⟨u,v,S,w,x,y⟩:=g b (by simp);refine wpAny_pyNext_list_item a t.isList (x:=F) (by simpa using G) λf G T=>?_;have U:Inv X C D H { s with heap:=f }:=I.turned (t':=s.toks) (λc o d e=>(T.2 c d).trans e) u v w x y;let⟨o,e,A,k⟩:=id G;exact⟨F,1,Ei (s:={ s with heap:=f }) e A k (by decide) ⟨M,H,U,R,⟨1,λA k=>by rw[I.Eg k j];exact q⟩,G,λc d=>(g c d).1⟩⟩
 done:=by
  intro X l m n B i C s D H E I g a p;subst l m n;let⟨L,j,q⟩:=p;let⟨N,r,t,O⟩:=I.list j;let⟨u,v,S,w,x,y⟩:=g b (by simp);let g:=↑r;exact wpAny_pyNext_list_end (I.ok.hd B) a t.isList (by simp;lia) λf f=>⟨1,I.turned (t':=s.toks) (λc o d e=>f c o d e) u v w x y⟩
 self:=λ_ _ _ _ _ a h=>wpAny_pyIter_listiter a h
theorem GY{P:Program}{L:World}{K:Frag}(f b:Addr):GX P L K tg (YI K f) [b] b (λi h=>h.IsTupleIter b f i) where
 mem:=by simp
 obj:=λi h a c d=>by
  let e:c=b:=by simpa using d
  subst e;let⟨o,e,B,l⟩:=a;exact⟨o,e,λv z=>by rw[l]at z;cases z⟩
 keep:=λi h g a G=>a.at λo e=>G b (by simp) o e
 item:=by
  intro X m n p C i D s F H E I j a q;subst m n p;let⟨M,N,k,r⟩:=q;let⟨t,u,v,O⟩:=I.tuple k;let⟨G,J,R⟩:=u.get r;let⟨w,x,S,y,z,A⟩:=j b (by simp);refine wpAny_pyNext_tuple_item a (show s.heap.IsTuple f t.toArray from v) (x:=G) (by simpa using J) λg J T=>?_;have U:Inv X D F H { s with heap:=g }:=I.turned (t':=s.toks) (λc o d e=>(T.2 c d).trans e) w x y z A;let⟨o,e,B,l⟩:=id J;exact⟨G,1,Ei (s:={ s with heap:=g }) e B l (by decide) ⟨N,H,U,R,⟨1,λB l=>by rw[I.Be l k];exact r⟩,J,λc d=>(j c d).1⟩⟩
 done:=by
  intro X m n p C i D s F H E I j a q;subst m n p;let⟨M,k,r⟩:=q;let⟨t,u,v,O⟩:=I.tuple k;let⟨w,x,S,y,z,A⟩:=j b (by simp);let j:=↑u;exact wpAny_pyNext_tuple_end (I.ok.hd C) a (show s.heap.IsTuple f t.toArray from v) (by simp;lia) λg g=>⟨1,I.turned (t':=s.toks) (λc o d e=>g c o d e) w x y z A⟩
 self:=λ_ _ _ _ _ a h=>wpAny_pyIter_tupleiter a h
theorem yd{P:Program}{B:World}{K:Frag}(b:Addr)(lo:Int)(n:Nat):GX P B K M (Jj lo n) [b] b (λi h=>IsRangeIter h b (lo+(i:Nat)*1) ((n:Int)-(i:Nat)) 1) where
 mem:=by simp
 obj:=λi h a c d=>by
  let e:c=b:=by simpa using d
  subst e
  exact⟨_,a,λw z=>by
   let f:Data.fields _=Data.cell w:=z
   cases f⟩
 keep:=λi h f a C=>C b (by simp) _ a
 item:=by
  intro X j k l m i x s y H E I g a o;subst j k l;let⟨p,q,D,r,t,u⟩:=g b (by simp);let W:=Walks.range (prog:=X.prog) (w:=X.w) (I.ok.hd m) b lo 1 n;refine W.item i s _ _ o a λw f z F A G=>?_;let⟨J,rfl⟩:=F;have L:Inv X x y H { s with heap:=f,toks:=z }:=I.turned (λc v d e=>G c v (by simpa using d) e) p q r t u;refine⟨Y,Ei (s:={ s with heap:=f,toks:=z }) (n:="range_iterator") A rfl rfl (by decide) ⟨.int (lo+i),H,L,⟨J,?_⟩,⟨V⟩,A,λc d=>(g c d).1⟩⟩;rw[Int.mul_one]
 done:=by
  intro X j k l m i x s y H E I g a o;subst j k l;let⟨p,q,D,r,t,u⟩:=g b (by simp);exact wpAny_pyNext_range_end (I.ok.hd m) a (by have:n<=i:=o;lia) λf f=>⟨1,I.turned (t':=s.toks) (λc v d e=>f c v d e) p q r t u⟩
 self:=λ_ _ _ _ _ a h=>wpAny_pyIter_rangeiter a h
end _L2
namespace _L2
open Spec Rows
section
variable {X:Cx} {tg:Expr}
inductive l'(K:Frag)(x:V)(H:Hp)(R:It->Hp->Prop):Prop
 | mk (a:Addr) (_:x=↥a) (_:∃ b,bL K H a b) (_:R (M4 K a) H)
def T5(K:Frag)(a:TE):TI:=fun b H R=>a b H λx b=>l' K x b R
def ma(K:Frag)(c:TE):TI:=fun a H R=>c a H λx b=>∃ a,x=↥a/\(∃ d,dO K b a d)/\R (YI K a) b
def cM{l:Expr}{d:TE}(g:PE X l d):PI X tg l (T5 X.K d):=by
 intro h s i H R I j;refine dN (g h s i H _ I j) λv b h=>?_;let⟨x,k,c,m,i⟩:=h;let⟨a,e,⟨h,n⟩,q⟩:=i;subst e;cases m;let⟨h,i,p,j⟩:=c.list n;refine wpAny_pyIter_list p.isList ?_;refine⟨b.heap.objs.size,[b.heap.objs.size],E,k,1,c.kept (t':=b.toks) λf o e=>Heap.get?_push_of_some _ e,KA a _,⟨_,Heap.get?_push_size _ rfl,V⟩,λf h=>?_,q⟩;have e:f=b.heap.objs.size:=by simpa using h
 subst e;exact c.Kz (fH _) (c.hok.fresh (fH _))
def Vo{l:Expr}{d:TE}(g:PE X l d):PI X tg l (ma X.K d):=by
 intro h s i H R I j;refine dN (g h s i H _ I j) λv b h=>?_;let⟨x,k,c,m,i⟩:=h;let⟨a,e,⟨h,n⟩,q⟩:=i;subst e;cases m;let⟨h,i,p,j⟩:=c.tuple n;refine wpAny_pyIter_tuple (show b.heap.IsTuple a h.toArray from p) ?_;refine⟨b.heap.objs.size,[b.heap.objs.size],E,k,1,c.kept (t':=b.toks) λf o e=>Heap.get?_push_of_some _ e,GY a _,⟨_,Heap.get?_push_size _ rfl,V⟩,λf h=>?_,q⟩;have e:f=b.heap.objs.size:=by simpa using h
 subst e;exact c.Kz (fH _) (c.hok.fresh (fH _))
theorem M5{b:St}{H:Hp}{s:Shared}{g:It->Hp->Prop}{E:ZB}{lo a:Int}{t u v:Tok}{c:Nat}(I:Inv X h b H s)(i:-(2^62)<=lo)(j:lo<2^62)(k:-(2^62)<=a)(l:a<2^62)
  (q:g (Jj lo (a-lo).toNat) H):wpAny (model X.prog X.w) X.A (pyIter ↥s.heap.objs.size) (eP X h b tg g) E { s with heap:=s.heap.push { cls:=.type "range",data:=.fields (List.toArray [.int lo t,.int a u,.int 1 v]) },toks:=c }:=by
 refine wpAny_pyIter_range (IsRange.new ..) (small_one i j k l) ?_;let d:Inv X h b H { s with heap:=s.heap.push { cls:=.type "range",data:=.fields (List.toArray [.int lo t,.int a u,.int 1 v]) },toks:=c }:=I.kept λf o e=>Heap.get?_push_of_some _ e;refine⟨(s.heap.push { cls:=.type "range",data:=.fields (List.toArray [.int lo t,.int a u,.int 1 v]) }).objs.size,[(s.heap.push { cls:=.type "range",data:=.fields (List.toArray [.int lo t,.int a u,.int 1 v]) }).objs.size],E,H,1, d.kept (t':=c) λf o e=>Heap.get?_push_of_some _ e,yd _ lo (a-lo).toNat,?_,λf m=>?_,q⟩
 ·let n:lo+((0:Nat):Int)*1=lo:=by simp
  let p:(((a-lo).toNat:Nat):Int)-((0:Nat):Int)=Builtin.Range.rangeSize lo a 1:=by rw[rangeSize_one];split <;> lia
  show IsRangeIter _ _ (lo+((0:Nat):Int)*1) ((((a-lo).toNat:Nat):Int)-((0:Nat):Int)) 1;rw[n,p];exact Heap.get?_push_size _ rfl
 ·let e:f=(s.heap.push { cls:=.type "range",data:=.fields (List.toArray [.int lo t,.int a u,.int 1 v]) }).objs.size:=by simpa using m
  subst e;exact d.Kz (fH _) (d.hok.fresh (fH _))
inductive mc(vs:List V)(H:Hp)(R:It->Hp->Prop):Prop
 | mk (j:Int) (_:vs=[.int j]) (_:-(2^62)<=j) (_:j<2^62) (_:R (Jj 0 j.toNat) H)
def YJ(a:TA):TI:=fun b H R=>a b H λb c=>mc b c R
def iA{a:Expr}{c:TA}{p:Pos}(d:Gl X "range")(e:X.mg "range"=none)(f:PA X [a] c)(g:starEach [a] X.env=[(false,eval a X.env)]:=by rfl):PI X tg (.Call (.Name "range" p) [a] [] h) (YJ c):=by
 intro i s j H R I k;refine Call_ (vc I d e boot_range (PyProof.Rows.callWith_type1 (dN (f h i s j H _ I k) λi j ⟨k,u,l,m,b⟩=>?_) g rfl));let⟨j,n,b,o,q⟩:=b;subst n
 cases m with
 | cons r t =>
  cases t;let⟨v,rfl⟩:=r;exact call_range_1 (M5 l ∅ ∅ b o (by simpa using q))
def md(e:TI)(g:TG)(f:TS):TS:=λD a H=>e a H λJ b=>∃ W:Nat->Nat->St->Hp->Prop,(∃ m,W 0 m a b)/\∀ i m a H,W i m a H->
 (J.stop i H/\D.nx a H)\/(J.go i H/\∃ N:St->Hp->Prop,(∀ c b,N c b->∃ d,d<m/\W (i+1) d c b)/\∀ x b,J.M0 i H x b->g x a b fun a c=>f (D.lp N) a c)
def r9(a:WF)(h:Heap):List (Addr × Obj):=a.filterMap λb=>(h.get? b).map λo=>(b,o)
theorem iH{a:WF}{h:Heap}{b:Addr}{o:Obj}(c:b∈a)(e:h.get? b=⇑o):(b,o)∈r9 a h:=List.mem_filterMap.mpr ⟨b,c,by rw[e];rfl⟩
def KC{a:WF}{h:Heap}{p:Addr × Obj}(c:p∈r9 a h):p.1∈a/\h.get? p.1=⇑p.2:=by
 let⟨b,d,e⟩:=List.mem_filterMap.mp c
 cases q:h.get? b with
 | none=>rw[q]at e;cases e
 | some o =>
  rw[q]at e;let f:(b,o)=p:=pQ e;subst f;exact⟨d,q⟩
theorem Inv.pinned{c:St}{H:Hp}{s:Shared}{a:WF}(I:Inv X d c H s)(h:∀ b∈a,oj X d H b)(i:∀ b∈a,∃ o,s.heap.get? b=⇑o/\∀ v,o.data≠.cell v):Inv X (d++r9 a s.heap) c H s :=
 I.Jf λp e=>(List.mem_append.mp e).elim (λz=>I.pin p (nE _ z)) λz=>by
  let⟨e,f⟩:=KC z;let⟨j,k,l,_⟩:=h p.1 e;let⟨o,g,m⟩:=i p.1 e;rw[f]at g;cases g;exact⟨f,j,k,l,m⟩
theorem Inv.nH{b:List (Addr × Obj)}{a:St}{H:Hp}{s:Shared}(I:Inv X (c++b) a H s):Inv X c a H s:=I.Jf λp d=>I.pin p (nE _ (n9 _ d))
theorem eX{r:Expr}{v:TI}{w:TG}{y:TS}(j:PassesOwn (model X.prog X.w) X.A X.env X.xe)(z:X.calm=true)(J:PI X tg r v)(L:PG X tg w)(a:Jh X M y)
  (N:∀ x,foldedSetIterable r X.env x=pure x:=by intro _;rfl):PS X (.For tg r M [] am) (md v w y):=by
 intro h s A O an R S;refine wpAny_For (dN (J h s A O _ R S) λU R O=>dN O λR S O=>?_) N;let⟨it,k,B,R,H2,l,I2,T,ab,C,W,⟨m0,w0⟩,mj⟩:=O;subst l;let t:∀ {f:Hp},(∀ b∈k,f b=none)->∀ b∈k,oj X h f b:=λO b a=>⟨O b a,(C b a).2⟩;refine codeAny_forLoop_any (λp c=>∃ i m f,Inv X h m f c/\B i c.heap/\(∀ b∈k,f b=none)/\W i p m f) ?_ m0 ⟨0,A,H2,I2,ab,λb a=>(C b a).1,w0⟩;rintro p D ⟨i,n,q,F,G,H,w3⟩;rcases mj i p n q w3 with ⟨stop,qn⟩|⟨go,ae,hN,step⟩
 ·refine wpAny_passesOwn j (dN (T.done X rfl rfl rfl z i h D n q X.xe F (t H) G stop) λag s4 c=>?_);let⟨u,d⟩:=c;subst u;exact wpAny_execs_nil ⟨n,q,d,qn⟩
 ·refine wpAny_passesOwn j (dN (T.item X rfl rfl rfl z i h D n q X.xe F (t H) G go) λag s4 q=>?_);let⟨ai,u,h4⟩:=q;subst u;refine wpAny_passesOwn j (dN h4 λ_ u C=>?_);let⟨x,A,D,F,G,q,H⟩:=C;let C:=D.pinned (t H) (T.obj _ _ q);refine wpAny_passesOwn j (dN (L _ u n A x ai _ C F (step x A G)) λ_ n t=>?_);let⟨A,C,D,F⟩:=t;refine wpAny_passesOwn j (dN (a _ n A C _ D F) λak n g=>?_)
  let I:∀ {c:St} {d:Hp},Inv X (h++r9 k u.heap) c d n->ae c d->∃ t,t<p/\∃ i m f,Inv X h m f n/\B i n.heap/\(∀ b∈k,f b=none)/\W i t m f:=λ{c d} e o=>by
   let⟨f,h,k⟩:=hN c d o;refine⟨f,h,i+1,c,d,e.nH,T.keep _ _ _ q λb a f l=>(e.pin (b,f) (nE _ (nE _ (iH a l)))).1,λb a=>?_,k⟩;let⟨f,l,h⟩:=T.obj _ _ q b a;exact (e.pin (b,f) (nE _ (nE _ (iH a l)))).2.1
  cases ak with
  | next=>let⟨c,d,e,o⟩:=g;exact I e o
  | cont=>let⟨c,d,e,o⟩:=g;exact I e o
  | brk=>let⟨c,d,e,g⟩:=g;exact⟨c,d,e.nH,g⟩
  | ret U=>let⟨b,c,d,e,f,g⟩:=g;exact⟨b,c,d,e.nH,f,g⟩
end
theorem eK{K:Frag}{e:Addr}{b:List V}{k:TG}{l:TS}{D:Ends}{a:St}{H:Hp}(c:Nat->St->Hp->Prop)(r:c 0 a H)(t:∀ i a H,i<=↑b->c i a H->bL K H e b)
  (u:∀ i x a H,b[i]?=⇑x->c i a H->k x a H fun f g=>l (D.lp (c (i+1))) f g) (v:∀ a H,c ↑b a H->D.nx a H) :
  ∃ W:Nat->Nat->St->Hp->Prop,(∃ m,W 0 m a H)/\∀ i m a H,W i m a H->
   ((M4 K e).stop i H/\D.nx a H)\/((M4 K e).go i H/\∃ N:St->Hp->Prop,(∀ h d,N h d->∃ n,n<m/\W (i+1) n h d)/\∀ x d,(M4 K e).M0 i H x d->k x a d fun f g=>l (D.lp N) f g):=by
 refine⟨λi m a H=>m=↑b-i/\i<=↑b/\c i a H,⟨↑b,by simp,Nat.zero_le _,r⟩,?_⟩;rintro i m a H ⟨rfl,o,p⟩;let q:=t i a H o p;by_cases o:i<↑b
 ·refine .inr ⟨⟨b,b[i],q,by simp[o]⟩,c (i+1),fun h d s=>⟨↑b-(i+1),by lia,1,o,s⟩,λx d y=>?_⟩;let⟨j,y⟩:=y;subst j;exact u i x a _ (y b q) p
 ·let j:i=↑b:=by lia
  subst j;exact .inl ⟨⟨b,q,fH _⟩,v a H p⟩
theorem QK{K:Frag}{e:Addr}{b:List V}{k:TG}{l:TS}{D:Ends}{a:St}{H:Hp}(c:Nat->St->Hp->Prop)(r:c 0 a H)(t:∀ i a H,i<=↑b->c i a H->dO K H e b)
  (u:∀ i x a H,b[i]?=⇑x->c i a H->k x a H fun f g=>l (D.lp (c (i+1))) f g) (v:∀ a H,c ↑b a H->D.nx a H) :
  ∃ W:Nat->Nat->St->Hp->Prop,(∃ m,W 0 m a H)/\∀ i m a H,W i m a H->
   ((YI K e).stop i H/\D.nx a H)\/((YI K e).go i H/\∃ N:St->Hp->Prop,(∀ h d,N h d->∃ n,n<m/\W (i+1) n h d)/\∀ x d,(YI K e).M0 i H x d->k x a d fun f g=>l (D.lp N) f g):=by
 refine⟨λi m a H=>m=↑b-i/\i<=↑b/\c i a H,⟨↑b,by simp,Nat.zero_le _,r⟩,?_⟩;rintro i m a H ⟨rfl,o,p⟩;let q:=t i a H o p;by_cases o:i<↑b
 ·refine .inr ⟨⟨b,b[i],q,by simp[o]⟩,c (i+1),fun h d s=>⟨↑b-(i+1),by lia,1,o,s⟩,λx d y=>?_⟩;let⟨j,y⟩:=y;subst j;exact u i x a _ (y b q) p
 ·let j:i=↑b:=by lia
  subst j;exact .inl ⟨⟨b,q,fH _⟩,v a H p⟩
theorem jW{lo:Int}{n:Nat}{j:TG}{k:TS}{D:Ends}{a:St}{H:Hp}(c:Nat->St->Hp->Prop)(o:c 0 a H)
  (q:∀ i a H,i<n->c i a H->j (.int (lo+i)) a H fun d e=>k (D.lp (c (i+1))) d e) (r:∀ a H,c n a H->D.nx a H) :
  ∃ W:Nat->Nat->St->Hp->Prop,(∃ m,W 0 m a H)/\∀ i m a H,W i m a H->
   ((Jj lo n).stop i H/\D.nx a H)\/((Jj lo n).go i H/\∃ N:St->Hp->Prop,(∀ f b,N f b->∃ l,l<m/\W (i+1) l f b)/\∀ x b,(Jj lo n).M0 i H x b->j x a b fun d e=>k (D.lp N) d e):=by
 refine⟨λi m a H=>m=n-i/\i<=n/\c i a H,⟨n,by simp,Nat.zero_le _,o⟩,?_⟩;rintro i m a H ⟨rfl,s,p⟩;by_cases g:i<n
 ·refine .inr ⟨g,c (i+1),fun f b s=>⟨n-(i+1),by lia,1,g,s⟩,λx b y=>?_⟩;let⟨h,y⟩:=y;subst h y;exact q i a _ g p
 ·let h:i=n:=by lia
  subst h;exact .inl ⟨Nat.le_refl _,r a H p⟩
end _L2
namespace _L2
open Spec Rows
abbrev R2:=V->V->Hp->VK->Prop
def rm(a:Cx)(f:Value->Value->Sem Value)(r:R2):Prop :=
 ∀ (b:List (Addr × Obj)) (s:Shared) (c:St) (H:Hp) (x y:V) (v u:Value) (Q:VK),Inv a b c H s->RelV x v->RelV y u->r x y H Q->
  wpAny (model a.prog a.w) a.A (f v u) (EP a b c Q) a.xe s
def eQ(a:Cx)(f:Value->Sem Value)(r:V->Hp->VK->Prop):Prop :=
 ∀ (b:List (Addr × Obj)) (s:Shared) (c:St) (H:Hp) (x:V) (v:Value) (Q:VK),Inv a b c H s->RelV x v->r x H Q->
  wpAny (model a.prog a.w) a.A (f v) (EP a b c Q) a.xe s
def jQ(a:Cx)(f:Value)(r:List V->Hp->VK->Prop):Prop :=
 ∀ (b:List (Addr × Obj)) (s:Shared) (c:St) (H:Hp) (d:List V) (e:WP) (Q:VK),Inv a b c H s->cE d e->r d H Q->
  wpAny (model a.prog a.w) a.A (call f e) (EP a b c Q) a.xe s
def me(a:Cx)(r:V->Hp->(Bool->Hp->Prop)->Prop):Prop :=
 ∀ (b:List (Addr × Obj)) (s:Shared) (c:St) (H:Hp) (x:V) (v:Value) (Q:Bool->Hp->Prop),Inv a b c H s->RelV x v->r x H Q->
  wpAny (model a.prog a.w) a.A (truthy v) (TP a b c Q) a.xe s
def YK(r:R2)(b c:TE):TE:=fun a H Q=>b a H λx d=>c a d λy a=>r x y a Q
def mf(r:V->Hp->VK->Prop)(a:TE):TE:=fun b H Q=>a b H λx b=>r x b Q
inductive rI(C:Int->Int->Prop)(g:Int->Int->V)(x y:V)(H:Hp)(Q:VK):Prop
 | mk (i j:Int) (_:x=.int i) (_:y=.int j) (_:C i j) (_:Q (g i j) H):rI C g x y H Q
inductive T7(g:Int->Int->V)(x y:V)(H:Hp)(Q:VK):Prop
 | mk (i j:Int) (_:x=.int i) (_:y=.int j) (_:Q (g i j) H)
def rU(g:Int->V):V->Hp->VK->Prop:=λx H Q=>∃ i,x=.int i/\Q (g i) H
section
variable {X:Cx} {a b c:Expr} {ta tb tc:TE} {pos:Pos}
theorem Vp(k:PE X a ta)(l:PE X b tb){f:List (Addr × Obj)}{s:Shared}{d:St}{H:Hp}{i:V->V->Hp->Prop}(I:Inv X f d H s)
  (m:ta d H λx h=>tb d h λy e=>i x y e) {Q:ZB} {j:Value->Value->Sem Value}
  (n:∀ v u g x y e,Inv X f d e g->RelV x v->RelV y u->i x y e->wpAny (model X.prog X.w) X.A (j v u) Q X.xe g) :
  wpAny (model X.prog X.w) X.A (eval a X.env) (λv o=>wpAny (model X.prog X.w) X.A (eval b X.env) (λu p=>wpAny (model X.prog X.w) X.A (j v u) Q X.xe p) X.xe o) X.xe s:=by
 refine dN (k f s d H _ I m) λv c q=>?_;let⟨x,h,r,t,w⟩:=q;refine dN (l f c d h _ r w) λu g c=>?_;let⟨y,e,q,r,w⟩:=c;exact n v u g x y e q t r w
def bx{d:Operator}{r:R2}(e:rm X (binaryOp d) r)(f:PE X a ta)(g:PE X b tb):PE X (.BinOp a d b pos) (YK r ta tb):=by
 intro c s h H Q I i;exact wpAny_BinOp (Vp f g I i λv u i x y j k l m q=>e c i h j x y v u Q k l m q)
def ig{d:UnaryOp}{r:V->Hp->VK->Prop}(e:eQ X (unaryOp d) r)(f:PE X a ta):PE X (.UnaryOp d a pos) (mf r ta):=by
 intro b s c H Q I h;exact UnaryOp_ (dN (f b s c H _ I h) λv g ⟨x,h,i,j,k⟩=>e b g c h x v Q i j k)
theorem d6{f:Value->Value->Sem Value}{C:Int->Int->Prop}{g:Int->Int->Int}
  (d:∀ (i j:Int) (t u:Tok) (s:Shared) (Q:ZB) (E:ZB),C i j->Q (.int (g i j) s.toks) { s with toks:=s.toks+1 }->wpAny (model X.prog X.w) X.A (f (.int i t) (.int j u)) Q E s) :
  rm X f (rI C λi j=>.int (g i j)):=by
 intro k s l H x y v u Q I a b h;let⟨i,j,rfl,rfl,c,q⟩:=h;let⟨t,rfl⟩:=a;let⟨e,rfl⟩:=b;exact d i j t e s _ _ c ⟨.int (g i j),H,I.tok _,⟨Y⟩,q⟩
theorem YL{f:Value->Value->Sem Value}{g:Int->Int->Int}
  (d:∀ (i j:Int) (t u:Tok) (s:Shared) (Q:ZB) (E:ZB),Q (.int (g i j) s.toks) { s with toks:=s.toks+1 }->wpAny (model X.prog X.w) X.A (f (.int i t) (.int j u)) Q E s) :
  rm X f (T7 λi j=>.int (g i j)):=by
 intro e s k H x y v u Q I a b h;let⟨i,j,rfl,rfl,q⟩:=h;let⟨t,rfl⟩:=a;let⟨c,rfl⟩:=b;exact d i j t c s _ _ ⟨.int (g i j),H,I.tok _,⟨Y⟩,q⟩
theorem QL{f:Value->Value->Sem Value}{g:Int->Int->Bool}
  (d:∀ (i j:Int) (t u:Tok) (s:Shared) (Q:ZB) (E:ZB),Q (.bool (g i j)) s->wpAny (model X.prog X.w) X.A (f (.int i t) (.int j u)) Q E s) :
  rm X f (T7 λi j=>.bl (g i j)):=by
 intro e s k H x y v u Q I a b h;let⟨i,j,rfl,rfl,q⟩:=h;let⟨t,rfl⟩:=a;let⟨c,rfl⟩:=b;exact d i j t c s _ _ ⟨.bl (g i j),H,I,1,q⟩
def mi(i j:Int):Prop:=0<=j/\j<=1000000/\i.natAbs<2^64
def Vq(i j:Int):Prop:=(-(2^64)<i/\i<2^64)\/(-(2^64)<j/\j<2^64)
def Vq.ok{i j:Int}(h:Vq i j):IntMulOk i j:=by
 rcases h with ⟨a,b⟩|⟨a,b⟩
 ·exact .of_left (intBits_le_64 a b)
 ·exact .of_right (intBits_le_64 a b)
theorem cT:rm X (binaryOp .Add) (T7 λi j=>.int (i+j)):=YL λ_ _ _ _ _ _ _ q=>add_int q
theorem dD:rm X (binaryOp .Sub) (T7 λi j=>.int (i-j)):=YL λ_ _ _ _ _ _ _ q=>sub_int q
theorem GZ:rm X (binaryOp .Mult) (rI Vq λi j=>.int (i*j)):=d6 λ_ _ _ _ _ _ _ a q=>mul_int q a.ok
theorem yf:rm X (binaryOp .Mod) (rI (λ_ j=>0<j) λi j=>.int (i % j)):=d6 λi j _ _ _ _ _ a q=>by
 let b:(0:Int)<j:=a;exact mod_int' ∅ (by rw[Int.fmod_eq_emod_of_nonneg i ∅];exact q)
theorem M6:rm X (binaryOp .Pow) (rI mi λi j=>.int (i^j.toNat)):=d6 λ_ _ _ _ _ _ _ a q=>pow_int_small a.1 a.2.1 a.2.2 q
theorem mm{f:Value->Sem Value}{g:Int->Int}
  (d:∀ (i:Int) (t:Tok) (s:Shared) (Q:ZB) (E:ZB),Q (.int (g i) s.toks) { s with toks:=s.toks+1 }->wpAny (model X.prog X.w) X.A (f (.int i t)) Q E s) :
  eQ X f (rU λi=>.int (g i)):=by
 intro b s c H x v Q I a h;let⟨i,rfl,q⟩:=h;let⟨t,rfl⟩:=a;exact d i t s _ _ ⟨.int (g i),H,I.tok _,⟨Y⟩,q⟩
theorem fF:eQ X (unaryOp .USub) (rU λi=>.int (-i)):=mm λ_ _ _ _ _ q=>neg_int q
end
def YM:V->V->Bool
 | .gc,.gc=>true | .gc,.int _=>true | .int _,.gc=>true | .gc,.bl _=>true | .bl _,.gc=>true | .gc,.str _=>true | .str _,.gc=>true
 | .int _,.int _=>true | .bl _,.bl _=>true | .str _,.str _=>true | .GR _,.GR _=>true
 | .int _,.str _=>true | .str _,.int _=>true | .bl _,.str _=>true | .str _,.bl _=>true
 | _,_=>false
def mo:R2:=λx y H Q=>YM x y=true/\Q (.bl (decide (x=y))) H
def mr:R2:=λx y H Q=>YM x y=true/\Q (.bl (!decide (x=y))) H
def Jk{i j:Int}:decide (V.int i=V.int j)=(i == j):=by
 rw[Bool.eq_iff_iff];simp
def M7{i j:Bool}:decide (V.bl i=V.bl j)=(i == j):=by
 rw[Bool.eq_iff_iff];simp
def Jl{i j:Str}:decide (V.str i=V.str j)=(i == j):=by
 rw[Bool.eq_iff_iff];simp
def Jm{i j:Array UInt8}:decide (V.GR i=V.GR j)=(i.toList == j.toList):=by
 rw[Bool.eq_iff_iff];cases i;cases j;simp
section
variable {X:Cx} {a b c:Expr} {ta tb tc:TE} {pos:Pos}
def ef{d:St}{H:Hp}{s:Shared}{Q:VK}{k e:Bool}(I:Inv X f d H s)(q:Q (.bl k) H)(g:k=e):EP X f d Q (.bool e) s:=by
 subst g;exact⟨.bl k,H,I,1,q⟩
def eE:rm X (compareOp .Eq) mo:=by
 intro e s f H x y v u Q I d a h;let⟨c,q⟩:=h
 cases x with
 | gc =>
  cases d
  cases y with
  | gc=>cases a;exact PySem.EqNone.eq_none_none (ef I q (by simp))
  | bl j=>cases a;exact PySem.EqNone.eq_none_bool (ef I q (by simp))
  | int j=>let⟨b,rfl⟩:=a;exact PySem.EqNone.eq_none_int (ef I q (by simp))
  | str j=>let⟨b,rfl⟩:=a;exact PySem.EqNone.eq_none_str (ef I q (by simp))
  | _=>exact absurd (show false=true from c) lT
 | bl i =>
  cases d
  cases y with
  | gc=>cases a;exact PySem.EqNone.eq_bool_none (ef I q (by simp))
  | bl j=>cases a;exact eq_bool (ef I q M7)
  | str j=>let⟨b,rfl⟩:=a;exact PySem.EqMixed.eq_bool_str (ef I q (by simp))
  | _=>exact absurd (show false=true from c) lT
 | int i =>
  let⟨t,rfl⟩:=d
  cases y with
  | gc=>cases a;exact PySem.EqNone.eq_int_none (ef I q (by simp))
  | int j=>let⟨b,rfl⟩:=a;exact eq_int (ef I q Jk)
  | str j=>let⟨b,rfl⟩:=a;exact PySem.EqMixed.eq_int_str (ef I q (by simp))
  | _=>exact absurd (show false=true from c) lT
 | str i =>
  let⟨t,rfl⟩:=d
  cases y with
  | gc=>cases a;exact PySem.EqNone.eq_str_none (ef I q (by simp))
  | bl j=>cases a;exact PySem.EqMixed.eq_str_bool (ef I q (by simp))
  | int j=>let⟨b,rfl⟩:=a;exact PySem.EqMixed.eq_str_int (ef I q (by simp))
  | str j=>let⟨b,rfl⟩:=a;exact eq_str (ef I q Jl)
  | _=>exact absurd (show false=true from c) lT
 | GR i =>
  let⟨t,rfl⟩:=d
  cases y with
  | GR j=>let⟨b,rfl⟩:=a;exact PySem.W.eq_bytes (ef I q Jm)
  | _=>exact absurd (show false=true from c) lT
 | _=>cases y <;> exact absurd (show false=true from c) lT
def Jo:rm X (compareOp .NotEq) mr:=by
 intro e s f H x y v u Q I d a h;let⟨c,q⟩:=h
 cases x with
 | gc =>
  cases d
  cases y with
  | gc=>cases a;exact PySem.EqNone.ne_none_none (ef I q (by simp))
  | bl j=>cases a;exact PySem.EqNone.ne_none_bool (ef I q (by simp))
  | int j=>let⟨b,rfl⟩:=a;exact PySem.EqNone.ne_none_int (ef I q (by simp))
  | str j=>let⟨b,rfl⟩:=a;exact PySem.EqNone.ne_none_str (ef I q (by simp))
  | _=>exact absurd (show false=true from c) lT
 | bl i =>
  cases d
  cases y with
  | gc=>cases a;exact PySem.EqNone.ne_bool_none (ef I q (by simp))
  | bl j=>cases a;exact ne_bool (ef I q (congrArg not M7))
  | str j=>let⟨b,rfl⟩:=a;exact PySem.EqMixed.ne_bool_str (ef I q (by simp))
  | _=>exact absurd (show false=true from c) lT
 | int i =>
  let⟨t,rfl⟩:=d
  cases y with
  | gc=>cases a;exact PySem.EqNone.ne_int_none (ef I q (by simp))
  | int j=>let⟨b,rfl⟩:=a;exact ne_int (ef I q (congrArg not Jk))
  | str j=>let⟨b,rfl⟩:=a;exact PySem.EqMixed.ne_int_str (ef I q (by simp))
  | _=>exact absurd (show false=true from c) lT
 | str i =>
  let⟨t,rfl⟩:=d
  cases y with
  | gc=>cases a;exact PySem.EqNone.ne_str_none (ef I q (by simp))
  | bl j=>cases a;exact PySem.EqMixed.ne_str_bool (ef I q (by simp))
  | int j=>let⟨b,rfl⟩:=a;exact PySem.EqMixed.ne_str_int (ef I q (by simp))
  | str j=>let⟨b,rfl⟩:=a;exact ne_str (ef I q (congrArg not Jl))
  | _=>exact absurd (show false=true from c) lT
 | GR i =>
  let⟨t,rfl⟩:=d
  cases y with
  | GR j=>let⟨b,rfl⟩:=a;exact PySem.W.ne_bytes (ef I q (congrArg not Jm))
  | _=>exact absurd (show false=true from c) lT
 | _=>cases y <;> exact absurd (show false=true from c) lT
theorem jR:rm X (compareOp .Lt) (T7 λi j=>.bl (decide (i<j))):=QL λ_ _ _ _ _ _ _ q=>lt_int q
theorem gC:rm X (compareOp .LtE) (T7 λi j=>.bl (decide (i<=j))):=QL λ_ _ _ _ _ _ _ q=>le_int q
theorem Bg:rm X (compareOp .Gt) (T7 λi j=>.bl (decide (j<i))):=QL λ_ _ _ _ _ _ _ q=>gt_int q
theorem T8:rm X (compareOp .GtE) (T7 λi j=>.bl (decide (j<=i))):=QL λ_ _ _ _ _ _ _ q=>ge_int q
def bh(b:Expr){d:CmpOp}(h:d≠.In:=by decide)(e:d≠.NotIn:=by decide):behindInMarks d b=false:=by
 let a:(d == CmpOp.In)=false:=by cases d <;> first|rfl|exact absurd rfl h
 let c:(d == CmpOp.NotIn)=false:=by cases d <;> first|rfl|exact absurd rfl e
 cases b <;> simp[behindInMarks,a,c]
def jw{d:CmpOp}{r:R2}(e:rm X (compareOp d) r)(f:PE X a ta)(g:PE X b tb)(h:behindInMarks d b=false):PE X (.Compare a [d] [b] pos) (YK r ta tb):=by
 intro c s i H Q I j;exact wpAny_Compare1 (Vp f g I j λv u j x y k l m n q=>e c j i k x y v u Q l m n q) h
def T9(t:TE):TT:=fun a H Q=>t a H λx a=>d3 x a Q
def aV{d:CmpOp}{r:R2}(g:rm X (compareOp d) r)(h:PE X a ta)(i:PE X b tb)(j:behindInMarks d b=false):PT X (.Compare a [d] [b] pos) (T9 (YK r ta tb)):=by
 intro e s f H Q I k
 refine wpAny_isTrue_Compare1 (dN (h e s f H _ I k) λv k ⟨x,l,m,n,o⟩=>dN (i e k f l _ m o) λu k ⟨y,l,m,o,p⟩ =>
  dN (g e k f l x y v u _ m n o p) λc e ⟨f,q,t,w,k,z,A⟩=>?_) j
 subst z;cases w;exact wpAny_truthy_bool ⟨q,t,A⟩
def Vr(r d:R2)(ta tb tc:TE):TE:=fun a H Q=>ta a H λx b=>tb a b λy b=>r x y b λz b=>∃ k,z=.bl k/\
 (if k=true then tc a b λa c=>d y a c Q else Q (.bl false) b)
theorem pX{f g:CmpOp}{r h:R2}(m:rm X (compareOp f) r)(n:rm X (compareOp g) h)(o:PE X a ta)(p:PE X b tb)(q:PE X c tc)
  (t:lastMarks [f,g] [b,c]=false:=by with_unfolding_all rfl):PT X (.Compare a [f,g] [b,c] pos) (T9 (Vr r h ta tb tc)):=by
 intro d s e H Q I v
 refine isTrue_chain (dN (o d s e H _ I v) λv w ⟨x,z,A,B,C⟩=>test_link (dN (p d w e z _ A C) λu w ⟨y,z,A,i,C⟩ =>
  dN (m d w e z x y v u _ A B i C) λv D ⟨z,j,k,F,G,J,l⟩=>?_)) t
 subst J;cases F;refine wpAny_truthy_bool ?_
 cases G with
 | false =>
  let⟨v,D,L⟩:=l;cases D;exact ite_ff ⟨j,k,L⟩
 | true =>
  refine ite_tt (test_last (dN (q d D e j _ k l) λj k ⟨l,v,w,x,z⟩=>dN (n d k e v y l u j _ w i x z) λe i d=>?_));let⟨e,D,L,M,i,N,O⟩:=d;subst N;cases M;exact wpAny_truthy_bool ⟨D,L,O⟩
def YN(K:Frag)(x:V)(H:Hp)(k:Bool):Prop :=
 match x with
 | .gc=>k=false
 | .bl b=>k=b
 | .int i=>k=(i != 0)
 | .str y=>↑y<=sizeLine/\k=((↑y:Int) != 0)
 | .GR y=>y.size<=sizeLine/\k=((y.size:Int) != 0)
 | .ref p=>(∃ a,bL K H p a/\k=!a.isEmpty)\/(∃ a,dO K H p a/\k=!a.isEmpty)\/∃ a,H p=⇑(.dK a)/\k=!a.isEmpty
 | _=>False
def G0{d:Type}{e:List (d × V)}{f:List (d × Value)}(r:KV e f):(!f.isEmpty)=!e.isEmpty:=by
 cases r <;> rfl
def yg{d:List V}{e:WP}(r:cE d e):(!e.toArray.isEmpty)=!d.isEmpty:=by
 cases r <;> simp
def sj:(sizeLine:Nat)<2^63:=by rw[sizeLine_eq];decide
def Vs:me X (λx H Q=>∃ k,YN X.K x H k/\Q k H):=by
 intro n s o H x v Q I d l;let⟨k,e,q⟩:=l;let l:=sj;let l:sizeLine=16777216:=sizeLine_eq
 cases x with
 | gc =>
  cases d;let a:k=false:=e;subst a;exact truthy_none ⟨H,I,q⟩
 | bl b =>
  cases d;let a:k=b:=e;subst a;exact wpAny_truthy_bool ⟨H,I,q⟩
 | int i =>
  let⟨t,rfl⟩:=d;let a:k=(i != 0):=e;subst a;exact PySem.P.truthy_int ⟨H,I,q⟩
 | str y =>
  let⟨t,rfl⟩:=d;obtain⟨c,a⟩:↑y<=sizeLine/\k=((↑y:Int) != 0):=e;subst a;exact PySem.P.truthy_str ∅ ⟨H,I.tok _,q⟩
 | GR y =>
  let⟨t,rfl⟩:=d;obtain⟨c,a⟩:y.size<=sizeLine/\k=((y.size:Int) != 0):=e;subst a;exact PySem.W.truthy_bytes ∅ ⟨H,I.tok _,q⟩
 | ref p =>
  cases d;let a:(∃ c,bL X.K H p c/\k=!c.isEmpty)\/(∃ c,dO X.K H p c/\k=!c.isEmpty)\/∃ f,H p=⇑(.dK f)/\k=!f.isEmpty:=e;rcases a with ⟨c,g,a⟩|⟨c,g,a⟩|⟨f,g,a⟩
  ·subst a;let⟨m,r,h,i⟩:=I.list g;let j:=↑r;exact wpAny_truthy_list h.isList (by simp only[iB];lia) ⟨H,I.tok _,by rw[yg r];exact q⟩
  ·subst a;let⟨m,r,h,i⟩:=I.tuple g;let j:=↑r;exact truthy_tuple h (by simp only[iB];lia) ⟨H,I.tok _,by rw[yg r];exact q⟩
  ·subst a;obtain⟨i,c,a,r,m⟩:↑f<=sizeLine/\(p == sysModules)=false/\∃ a,KV f a/\s.heap.DictOf (fN X.prog X.w) p a:=I.hok p _ g;let j:↑f=↑a:=Paired.length r;exact wpAny_truthy_dict c m ∅ ⟨H,I.tok _,by rw[G0 r];exact q⟩
 | _=>exact (show False from e).elim
theorem jd(g:PE X a ta)(h:∀ e,isTrue a X.env e=(do let v ← e;standAt a.pos;holding [v] (truthy v))) :
  PT X a (fun d H Q=>ta d H λx f=>∃ k,YN X.K x f k/\Q k f):=by
 intro b s d H Q I c;exact isTrue_plain (dN (g b s d H _ I c) λv c ⟨x,i,j,l,m⟩=>Vs b c d i x v Q j l m) (h _)
def vals1{x:V}{d:WP}(r:cE [x] d):∃ u,d=[u]/\RelV x u:=by
 cases r with
 | cons a b=>cases b;exact⟨Y,a⟩
def vals2{x y:V}{d:WP}(r:cE [x,y] d):∃ u e,d=[u,e]/\RelV x u/\RelV y e:=by
 cases r with
 | cons a b =>
  cases b with
  | cons c f=>cases f;exact⟨E,1,a,c⟩
def lU(e:X.calm=true):jQ X (.builtin "max") (λd H Q=>∃ i j,d=[.int i,.int j]/\Q (.int (if j > i then j else i)) H):=by
 intro a s b H d c Q I r h;let⟨i,j,rfl,q⟩:=h;let⟨u,f,rfl,⟨t,rfl⟩,⟨g,rfl⟩⟩:=vals2 r;refine max_two_ints (I.ok.hd e) λa b k=>⟨_,H,I.kept k,?_,q⟩;by_cases a:j > i
 ·rw[if_pos a,if_pos a];exact⟨Y⟩
 ·rw[if_neg a,if_neg a];exact⟨Y⟩
def nI(e:X.calm=true):jQ X (.builtin "min") (λd H Q=>∃ i j,d=[.int i,.int j]/\Q (.int (if j<i then j else i)) H):=by
 intro a s b H d c Q I r h;let⟨i,j,rfl,q⟩:=h;let⟨u,f,rfl,⟨t,rfl⟩,⟨g,rfl⟩⟩:=vals2 r;refine min_two_ints (I.ok.hd e) λa b k=>⟨_,H,I.kept k,?_,q⟩;by_cases a:j<i
 ·rw[if_pos a,if_pos a];exact⟨Y⟩
 ·rw[if_neg a,if_neg a];exact⟨Y⟩
end
end _L2
namespace _L2
open Spec Rows
structure G1(h:Heap)(x dx C:Addr)(mA:Ya):Prop where
 obj:h.get? x=⇑(instObj C dx)
 ns:h.Ns1 dx mA
 ne:dx≠x
def KD{h:Heap}{a:Ya}(n:h.Ns1 d a):∃ b,h.get? d=⇑b/\∀ name,lookIn name b=⇑(a name):=by
 let⟨o,c,k,f,g,i,_,j⟩:=n;refine⟨o,f,λname=>?_⟩;let e:=j name;unfold nsFind findBy at e;rw[← Array.find?_toList]at e;unfold lookIn;rw[g];dsimp only;split
 ·rename_i y q;rw[q]at e;exact congrArg some e
 ·rename_i q;rw[q]at e
  let f:c.toList.any (·.refKey)=false:=by
   rw[List.any_eq_false];intro y g;let⟨z,t,j⟩:=i y (Array.mem_toList_iff.mp g);simp[DictEntry.refKey,j]
  let g:¬ c.toList.any (·.refKey)=true:=by rw[f];exact lT
  rw[if_neg g];exact congrArg some e
theorem G1.look{h:Heap}{x:Addr}{b:Ya}(I:G1 h x c C b):∃ a,InstAt h x (instObj C c) C (⇑a)/\∀ name,lookIn name a=⇑(b name) :=
 let ⟨a,d,e⟩:=KD I.ns
 ⟨a,⟨I.obj,V,d⟩,e⟩
section
variable {prog:Program} {w:World} {A:Around} {E:ZB} {s:Shared} {K:Frag} {x dx C f:Addr} {mA:Ya} {name:Str} {v:Value}
theorem QM{a:Bool}{Q:ZB}(b:K.In s.heap)(I:G1 s.heap x dx C mA)(c:plainGet K C name=true)(d:hasDictIn K C=true)
  (e:findIn K ↥C name=⇑none) (g:mA name=⇑v) (h:handedIn v=true) (i:Q v { s with toks:=s.toks+1 }) :
  wpAny (model prog w) A (getAttr ↥x name a) Q E s:=by
 let⟨j,J,f⟩:=I.look;exact PySem.W.get_value b J (plainGet_of c).1 (PySem.W.findObj_own d e rfl (by rw[f,g])) h i
theorem M8{b:Sem Bool}{Q:Value × List Value->Shared->Prop}(c:K.In s.heap)(I:G1 s.heap x dx C mA)(a:plainGet K C name=true)
  (d:findIn K ↥C name=⇑(⇑↥f)) (e:isFn K ↥f=true) (g:mA name=none) (h:Q (.ref f,[↥x]) s) :
  wpAny (model prog w) A (getMethod ↥x name b) Q E s:=by
 let⟨i,J,j⟩:=I.look;exact PySem.W.method_fn c J (plainGet_of a).1 (plainGet_of a).2 d (beq_iff_eq.mp e) (by show (lookIn name i).map (·.isSome)=⇑false;rw[j,g];rfl) h
theorem QN{c:UV}{Q:Unit->Shared->Prop}(b:K.In s.heap)(I:G1 s.heap x dx C mA)
  (g:findIn K ↥C "__setattr__"=⇑(⇑(.builtin "object.__setattr__"))) (h:plainOver K C=true) (i:takerIn K C name=⇑none) (j:hasDictIn K C=true)
  (k:PySem.Within mA c) (o:↑c<=sizeLine)
  (l:∀ a,G1 a x dx C (λy=>if y=name then some v else mA y)->Heap.SameBut dx s.heap a->Q () { s with heap:=a,toks:=s.toks+2 }) :
  wpAny (model prog w) A (setAttr ↥x name v) Q E s:=by
 let⟨d,J,e⟩:=I.look;refine PySem.W.set_plain b J g (PySem.W.osa_open (s:={ s with toks:=s.toks+1 }) (r:=none) b J h i λd=>?_);let⟨f,d,e⟩:=PySem.W.any_some j;let f:s.heap.get? x=some ⟨↥C,⇑dx,.plain,#[]⟩:=I.obj;refine wpAny_bind (wpAny_pure (wpAny_bind (wpAny_bind (wpAny_loadPart f (wpAny_bind (PySem.W.Looks.here (s:={ s with toks:=s.toks+1 }) (PySem.W.looks_clsIn b d) ?_))))));rw[e];refine wpAny_pure (a:=⇑dx) (wpAny_bind (wpAny_pure (wpAny_bind ?_)));refine wpAny_nsSet1 (s:={ s with toks:=s.toks+1 }) I.ns λa d e=>?_;let⟨p,q,r,f,m,n⟩:=d.count (PySem.Within.cons name v k);refine wpAny_bind (wpAny_lookBehind f (by rw[m];exact pastItsLine_dict (iC n (by rw[fE];lia))) ?_);exact wpAny_pure (l _ ⟨(e.2 _ (Ne.symm I.ne)).trans I.obj,d,I.ne⟩ e)
theorem M9{d:X2}{a:WP}{b:List (Str × Value)}(c:K.In s.heap)(e:makesIn K C=true)
  (g:findIn K ↥C "__init__"=⇑(⇑↥f)) (h:typeIn K ↥f=⇑(.type "function"))
  (i:codeAny (model prog w) (A.under (.builtin "type.__call__" ⟨↥C::a,b⟩)) (.call ↥f ⟨.ref (s.heap.objs.size+1)::a,b⟩) (PySem.W.InitBack (s.heap.objs.size+1) d)
   { s with heap:=(s.heap.push emptyDict).push (instObj C s.heap.objs.size) }) :
  codeAny (model prog w) A (.call ↥C ⟨a,b⟩) d s:=by
 let⟨j,k,l,t,m⟩:=s;exact PySem.W.make_core (PySem.W.makes_of c e) (PySem.W.looks_findIn c g) (λself=>PySem.W.bind_fn c self h) (.inl rfl) i
end
def eY(f:Str)(v:V):List (Str × V)->List (Str × V)
 | []=>[(f,v)]
 | (g,x)::r=>if g=f then (g,v)::r else (g,x)::eY f v r
theorem wg(f g:Str)(v:V):∀ c:List (Str × V),(eY f v c).lookup g=if g=f then some v else c.lookup g
 | []=>by
  show List.lookup g [(f,v)]=_;by_cases h:g=f
  ·let a:(g == f)=true:=beq_iff_eq.mpr h;simp only[List.lookup,a,if_pos h]
  ·let a:(g == f)=false:=beq_eq_false_iff_ne.mpr h;simp only[List.lookup,a,if_neg h]
 | (k,x)::r=>by
  let d:=wg f g v r;rw[show eY f v ((k,x)::r)=(if k=f then (k,v)::r else (k,x)::eY f v r) from rfl];by_cases b:k=f
  ·rw[if_pos b];by_cases h:g=k
   ·let a:(g == k)=true:=beq_iff_eq.mpr h;simp only[List.lookup,a,if_pos (h.trans b)]
   ·let a:(g == k)=false:=beq_eq_false_iff_ne.mpr h;simp only[List.lookup,a,if_neg (λe:g=f=>h (e.trans b.symm))]
  ·rw[if_neg b];by_cases h:g=k
   ·let a:(g == k)=true:=beq_iff_eq.mpr h;simp only[List.lookup,a,if_neg (λe:g=f=>b (h.symm.trans e))]
   ·let a:(g == k)=false:=beq_eq_false_iff_ne.mpr h;simp only[List.lookup,a];exact d
theorem ve(f:Str)(v:V):∀ a:List (Str × V),f∈(eY f v a).map (·.1)/\∀ g,g∈a.map (·.1)->g∈(eY f v a).map (·.1)
 | []=>⟨by simp[eY],λg h=>by simp at h⟩
 | (k,x)::r=>by
  let⟨c,d⟩:=ve f v r;rw[show eY f v ((k,x)::r)=(if k=f then (k,v)::r else (k,x)::eY f v r) from rfl];by_cases b:k=f
  ·rw[if_pos b];subst b;exact⟨by simp,λg h=>by simpa using h⟩
  ·rw[if_neg b];refine⟨?_,λg h=>?_⟩
   ·rw[jv];exact kY _ c
   ·rw[jv]at h ⊢;rcases List.mem_cons.mp h with e|e
    ·exact List.mem_cons.mpr (.inl e)
    ·exact kY _ (d g e)
theorem wj(f:Str)(v:V):∀ a:List (Str × V),↑(eY f v a)<=↑a+1
 | []=>by simp[eY]
 | (k,x)::r=>by
  let b:=wj f v r;rw[show eY f v ((k,x)::r)=(if k=f then (k,v)::r else (k,x)::eY f v r) from rfl];by_cases b:k=f
  ·rw[if_pos b,fE,fE];lia
  ·rw[if_neg b,fE,fE];lia
def pD.some_of{v:V}{o:XB}(r:pD (⇑v) o):∃ u,o=⇑u/\RelV v u:=by
 cases o with
 | none=>exact (show False from r).elim
 | some u=>exact⟨u,1,r⟩
def pD.none_of{o:XB}(r:pD none o):o=none:=by
 cases o with
 | none=>rfl
 | some u=>exact (show False from r).elim
def KG{v:V}{u:Value}(r:RelV v u):handedIn u=true:=by
 cases v with
 | gc=>cases (show u=Value.none from r);rfl
 | bl b=>cases (show u=Value.bool b from r);rfl
 | int i=>let⟨t,e⟩:=(show ∃ t,u=Value.int i t from r);cases e;rfl
 | str x=>let⟨t,e⟩:=(show ∃ t,u=Value.str x t from r);cases e;rfl
 | GR b=>let⟨t,e⟩:=(show ∃ t,u=Value.bytes b t from r);cases e;rfl
 | TX b=>let⟨t,e⟩:=(show ∃ t,u=Value.float b t from r);cases e;rfl
 | ref a=>cases (show u=Value.ref a from r);rfl
 | ty n=>cases (show u=Value.type n from r);rfl
section
variable {P:Program} {w:World} {H H':Hp} {h h':Heap} {a C dx:Addr} {fs XU:List (Str × V)}
def xP(c:tK P w H h)(e:H a=⇑(.ins C dx fs)):∃ b,G1 h a dx C b/\(∀ f,pD (fs.lookup f) (b f))/\PySem.Within b (fs.map (·.1))/\↑fs<=1000/\H dx=⇑(.own a):=by
 let⟨d,z,g,i,b,n,r,q⟩:=(show gA P w H h a (.ins C dx fs) from c a _ e);exact⟨b,⟨i,n,g⟩,r,q,z,d⟩
end
structure MF(K:Frag)(C:Addr):Prop where
 pg:plainGet K C Str.empty=true
 hd:hasDictIn K C=true
 po:plainOver K C=true
 sa:findIn K ↥C "__setattr__"=⇑(⇑(.builtin "object.__setattr__"))
theorem MF.get{K:Frag}(c:MF K C)(f:Str):plainGet K C f=true:=c.pg
def gv(K:Frag)(C:Addr)(f:Str):Prop:=findIn K ↥C f=⇑none
def gv.YO{K:Frag}{f:Str}(n:gv K C f):takerIn K C f=⇑none:=by
 unfold takerIn;rw[show findIn K ↥C f=⇑none from n];rfl
structure Na(K:Frag)(C:Addr)(m:Str)(f:Addr):Prop where
 at_:findIn K ↥C m=⇑(⇑↥f)
 fn:isFn K ↥f=true
 kp:keepIn K ↥f=true
section
variable {X:Cx} {au:List (Addr × Obj)} {σ:St} {H:Hp} {s:Shared} {a C dx:Addr} {c:List (Str × V)} {f:Str} {v:V} {A:Around} {E:ZB}
theorem yh{g:Bool}{Q:ZB}(I:Inv X au σ H s)(h:H a=⇑(.ins C dx c))(b:MF X.K C)(n:gv X.K C f)(l:c.lookup f=⇑v)
  (i:∀ u d,Inv X au σ H d->RelV v u->Q u d):wpAny (model X.prog X.w) A (getAttr ↥a f g) Q E s:=by
 let⟨j,O,r,_,_,_⟩:=xP I.hok h;let⟨u,k,e⟩:=pD.some_of (v:=v) (o:=j f) (by rw[← l];exact r f);exact QM I.we O (b.get f) b.hd n k (KG e) (i u _ (I.tok _) e)
theorem yi{m:Str}{g:Addr}{b:Sem Bool}{Q:Value × List Value->Shared->Prop}(I:Inv X au σ H s)(e:H a=⇑(.ins C dx c))(d:MF X.K C)(k:Na X.K C m g)(l:c.lookup m=none)
  (h:Q (.ref g,[↥a]) s):wpAny (model X.prog X.w) A (getMethod ↥a m b) Q E s:=by
 let⟨f,O,r,_,_,_⟩:=xP I.hok e;let i:f m=none:=pD.none_of (by rw[← l];exact r m);exact M8 I.we O (d.get m) k.at_ k.fn i h
theorem yj{y:V}{u:Value}{Q:Unit->Shared->Prop}(I:Inv X au σ H s)(e:H a=⇑(.ins C dx c))(b:MF X.K C)(n:gv X.K C f)(w:↑c<1000)(k:RelV y u)
  (l:∀ h,Inv X au σ (aL H a (.ins C dx (eY f y c))) h->Q () h):wpAny (model X.prog X.w) A (setAttr ↥a f u) Q E s:=by
 let⟨i,O,r,j,_,g⟩:=xP I.hok e;let d:↑(c.map (·.1))<=sizeLine:=by rw[cC,sizeLine_eq];lia
 refine QN I.we O b.sa b.po n.YO b.hd j d λm d p=>l _ ?_;have t:∃ o,m.get? dx=⇑o:=let ⟨o,E,m,_⟩:=d.ns;⟨o,m⟩;refine I.write (x:=a) (e:=dx) (by rw[e];exact True.intro) (.inr g) (λm q o z=>(p.2 m o).trans z) t ?_;refine⟨by rw[aK O.ne];exact g,?_,O.ne,d.obj,_,d.ns,λg=>?_,λg d=>?_⟩
 ·have:=wj f y c;lia
 ·show pD ((eY f y c).lookup g) (if g=f then some u else i g);rw[wg];by_cases q:g=f
  ·rw[if_pos q,if_pos q];exact k
  ·rw[if_neg q,if_neg q];exact r g
 ·by_cases q:g=f
  ·rw[q];exact (ve f y c).1
  ·refine (ve f y c).2 g (j g λz=>d ?_);show (if g=f then some u else i g)=none;rw[if_neg q];exact z
theorem Inv.made(I:Inv X au σ H s):Inv X au σ (aL (aL H s.heap.objs.size (.own (s.heap.objs.size+1))) (s.heap.objs.size+1) (.ins C s.heap.objs.size []))
  { s with heap:=(s.heap.push emptyDict).push (instObj C s.heap.objs.size) }:=by
 let a:(s.heap.push emptyDict).get? s.heap.objs.size=⇑emptyDict:=Heap.get?_push_size s.heap rfl
 let b:((s.heap.push emptyDict).push (instObj C s.heap.objs.size)).get? (s.heap.objs.size+1)=⇑(instObj C s.heap.objs.size):=by
  have:=Heap.get?_push_size (s.heap.push emptyDict) (o:=instObj C s.heap.objs.size) rfl;rwa [Heap.size_push]at this
 let c:(s.heap.push emptyDict).Ns s.heap.objs.size (λ_=>none):=⟨emptyDict,#[],_,a,1,(λe d=>absurd d (by simp)),λ_=>rfl⟩;let d:=I.laid (a:=s.heap.objs.size) (o:=.own (s.heap.objs.size+1)) (h':=s.heap.push emptyDict) (t':=s.toks) (λe u q=>Heap.get?_push_of_some _ q) (fH _) ⟨_,a⟩;refine d.laid (a:=s.heap.objs.size+1) (o:=.ins C s.heap.objs.size []) (t':=s.toks) (λe u q=>Heap.get?_push_of_some _ q) (Nat.le_of_eq (Heap.size_push _ _)) ?_;let a:s.heap.objs.size≠s.heap.objs.size+1:=jN (Nat.lt_succ_self _);refine⟨by rw[aK a,af],Nat.zero_le _,a,b,λ_=>none,(Heap.Ns1.of_empty c).at λo q=>Heap.get?_push_of_some _ q,λ_=>True.intro,λy f=>absurd rfl f⟩
theorem QO{d:Program}{w:World}{b:Env}{e:Expr}{f:Str}{s:Shared}{Q:ZB}(g:attributeBase e f b (eval e b)=eval e b)
  (h:wpAny (model d w) A (eval e b) (λo i=>wpAny (model d w) A (getAttr o f true) Q E i) E s):wpAny (model d w) A (eval (.Attribute e f j) b) Q E s :=
 Attribute_any_ h (by rw[arm_eval_Attribute,g])
end
inductive YQ(K:Frag)(f:Str)(x:V)(H:Hp)(Q:VK):Prop
 | mk (a C c:Addr) (b:List (Str × V)) (v:V) (_:x=↥a) (_:H a=⇑(.ins C c b)) (_:MF K C) (_:gv K C f) (_:b.lookup f=⇑v) (_:Q v H):YQ K f x H Q
def YR(K:Frag)(a:TE)(f:Str):TE:=fun b H Q=>a b H λx b=>YQ K f x b Q
def mu(K:Frag)(g h:TE)(f:Str):TS:=λD a H=>h a H λy b=>g a b λx d=>∃ b C e c,x=↥b/\d b=⇑(.ins C e c)/\MF K C/\gv K C f/\↑c<1000/\
 D.nx a (aL d b (.ins C e (eY f y c)))
def YS(a:Cx)(d:Operator)(e:V->V->Hp->VK->Prop):Prop :=
 ∀ (b:List (Addr × Obj)) (s:Shared) (c:St) (H:Hp) (x y:V) (u v:Value) (Q:VK),Inv a b c H s->RelV x u->RelV y v->e x y H Q->wpAny (model a.prog a.w) a.A (inplaceOp d u v) (EP a b c Q) a.xe s
def QS(K:Frag)(g h:TE)(i:V->V->Hp->VK->Prop)(f:Str):TS:=λD b H=>g b H λx c=>∃ a C e d v,x=↥a/\c a=⇑(.ins C e d)/\MF K C/\gv K C f/\d.lookup f=⇑v/\
 h b c λy c=>i v y c λz d=>∃ e c,d a=⇑(.ins C e c)/\c.length<1000/\D.nx b (aL d a (.ins C e (eY f z c)))
section
variable {X:Cx} {o e value:Expr} {f:Str} {pos jc KH:Pos} {ta tv:TE}
def cY(a:PE X e ta)(b:attributeBase e f X.env (eval e X.env)=eval e X.env):PE X (.Attribute e f pos) (YR X.K ta f):=by
 intro c s d H Q I h;refine QO b (dN (a c s d H _ I h) λu d c=>?_);let⟨x,g,i,j,k,C,d,h,v,l,m,n,o,p,q⟩:=c;subst l;obtain rfl:u=Value.ref k:=j;exact yh i m n o p λh i c d=>⟨v,g,c,d,q⟩
def iI(c:PE X o ta)(d:PE X value tv)(g:swapsWith value (⇑(.Attribute o f jc)) pos.line X.env=pure false):PS X (.Assign [.Attribute o f jc] value pos) (mu X.K ta tv f):=by
 intro b s a H D I h;refine plainObj_wpAny_Assign_Attribute (dN (d b s a H _ I h) λi e h=>?_) g;let⟨y,i,j,k,q⟩:=h;refine dN (c b e a i _ j q) λl e b=>?_;let⟨e,h,m,n,p,C,i,j,r,t,u,v,w,x⟩:=b;subst r;obtain rfl:l=Value.ref p:=n;exact yj m t u v w k λe b=>⟨a,_,b,x⟩
def vf{c:Operator}{d:V->V->Hp->VK->Prop}(g:PE X o ta)(h:PE X value tv)(i:YS X c d):PS X (.AugAssign (.Attribute o f KH) c value pos) (QS X.K ta tv d f):=by
 intro b s a H D I j;refine wpAny_AugAssign_AttributeAny (dN (g b s a H _ I j) λk x j=>?_);let⟨x,l,m,p,q,C,y,z,v,r,t,e,n,u,w⟩:=j;subst r;obtain rfl:k=Value.ref q:=p;refine yh m t e n u λu j k m=>dN (h b j a l _ k w) λj k ⟨y,l,p,q,r⟩=>dN (i b k a l v y u j _ p m q r) λj k b=>?_;let⟨z,q,j,k,r,t,l,m,p⟩:=b;exact yj j l e n m k λe b=>⟨a,_,b,p⟩
end
section
variable {X:Cx} {au:List (Addr × Obj)} {σ:St} {H:Hp} {s:Shared} {A:Around} {E:ZB} {Q:ZB} {c:Value} {b:Bool}
inductive kq(K:Frag)(H:Hp):V->Value->Prop where
 | gc:kq K H .gc (.type "NoneType")
 | bl (x:Bool):kq K H (.bl x) (.type "bool")
 | int (i:Int):kq K H (.int i) (.type "int")
 | str (x:Str):kq K H (.str x) (.type "str")
 | TX (x:UInt64):kq K H (.TX x) (.type "float")
 | lst {a:Addr} {d:List V} (e:H a=⇑(.lst d)):kq K H ↥a (.type "list")
 | Jd {a:Addr} {o:Obj} {d:List V} (e:H a=⇑(.Jd o (.lst d))):kq K H ↥a (.type "list")
 | tup {a:Addr} {d:List V} (e:H a=⇑(.tup d)):kq K H ↥a (.type "tuple")
 | dK {a:Addr} {f:List (fR × V)} (e:H a=⇑(.dK f)):kq K H ↥a (.type "dict")
 | dT {a:Addr} {f:List (List fR × V)} (e:H a=⇑(.dT f)):kq K H ↥a (.type "dict")
 | ins {a C g:Addr} {h:List (Str × V)} (e:H a=⇑(.ins C g h)) (j:MF K C) (k:findIn K ↥C "__class__"=⇑(⇑(.builtin "object.__class__")))
   (l:PySem.W.specialIn K (.builtin "object.__class__") "__get__"=⇑(⇑(.builtin "getset_descriptor.__get__"))) (m:PySem.W.takesIn K (.builtin "object.__class__")=⇑true)
   (n:mroIn K C (.type "object")=⇑true):kq K H ↥a ↥C
theorem KI{x:V}{u t:Value}(I:Inv X au σ H s)(d:RelV x u)(l:kq X.K H x t)(e:kitOne X.K t c=⇑b)(h:∀ m,Q (.bool b) { s with toks:=m }) :
  wpAny (model X.prog X.w) A (call (.builtin "isinstance") [u,c]) Q E s:=by
 cases l with
 | gc=>cases (show u=Value.none from d);exact kia_one PySem.W.kitx_none I.we True.intro e (λz=>nomatch z) h
 | bl y=>cases (show u=Value.bool y from d);exact kia_one PySem.W.kitx_bool I.we True.intro e (λz=>nomatch z) h
 | int i=>let⟨t,q⟩:=(show ∃ t,u=Value.int i t from d);cases q;exact kia_one PySem.W.kitx_int I.we True.intro e (λz=>nomatch z) h
 | str y=>let⟨t,q⟩:=(show ∃ t,u=Value.str y t from d);cases q;exact kia_one PySem.W.kitx_str I.we True.intro e (λz=>nomatch z) h
 | TX y=>let⟨t,q⟩:=(show ∃ t,u=Value.float y t from d);cases q;exact kia_one PySem.W.kitx_float I.we True.intro e (λz=>nomatch z) h
 | @lst a i f =>
  cases (show u=Value.ref a from d);let⟨_,_,n,_,g⟩:=(show gA X.prog X.w H s.heap a (.lst i) from I.hok a _ f);exact kia_one kitx_list I.we ⟨_,g,1⟩ e (λz=>nomatch z) h
 | @Jd a j i f =>
  cases (show u=Value.ref a from d);let⟨_,_,_,n,_,g⟩:=(show gA X.prog X.w H s.heap a (.Jd j (.lst i)) from I.hok a _ f);exact kia_one kitx_list I.we ⟨_,g,1⟩ e (λz=>nomatch z) h
 | @tup a i f =>
  cases (show u=Value.ref a from d);let⟨_,_,_,p⟩:=(show gA X.prog X.w H s.heap a (.tup i) from I.hok a _ f);let⟨o,g,j,_⟩:=p;exact kia_one PySem.W.kitx_tuple I.we ⟨o,g,j⟩ e (λz=>nomatch z) h
 | @dK a k f =>
  cases (show u=Value.ref a from d);let⟨_,_,i,_,p⟩:=(show gA X.prog X.w H s.heap a (.dK k) from I.hok a _ f);let⟨o,n,q,g,j,_⟩:=p;exact kia_one kitx_dict I.we ⟨o,g,j.1⟩ e (λz=>nomatch z) h
 | @dT a k f =>
  cases (show u=Value.ref a from d);let⟨_,_,i,_,o,n,q,g,j,_⟩:=(show gA X.prog X.w H s.heap a (.dT k) from I.hok a _ f);exact kia_one kitx_dict I.we ⟨o,g,j.1⟩ e (λz=>nomatch z) h
 | @ins a C n o f cl g i j k =>
  cases (show u=Value.ref a from d);let⟨n,O,_⟩:=xP I.hok f;let⟨f,J,_⟩:=O.look;exact kia_one (PySem.W.kitx_own (cl.get _) cl.hd g i j k) I.we J e (λz=>nomatch z) h
end
end _L2
namespace _L2
open Spec Rows
structure jh(k:Nat)(A:Around):Prop where
 hd:A.handled=none
 dp:A.depth+3*k+5<recursionLimit
 un:A.units+16*k+200<cLine
theorem jh.mono{j k:Nat}{A:Around}(r:jh k A)(h:j<=k):jh j A:=⟨r.hd,by have:=r.dp;lia,by have:=r.un;lia⟩
theorem jh.deeper{k:Nat}{A:Around}(r:jh (k+1) A)(a:Env):jh k (A.deeper a) :=
 ⟨r.hd,by have:=r.dp;show A.depth+1+3*k+5<_;lia,by have:=r.un;show A.units+3+16*k+200<_;lia⟩
def G2{A:Around}{a:WP}{b:List (Str × Value)}:(A.under (.builtin "type.__call__" ⟨↥C::a,b⟩)).depth=A.depth+1:=by
 first|rfl|simp[Around.under,Code.weight,Code.isCreation,Code.isGuard,Code.isCaller,Code.frames,Code.isFrame,guardIds]
def G3{A:Around}{a:WP}{b:List (Str × Value)}:(A.under (.builtin "type.__call__" ⟨↥C::a,b⟩)).units=A.units+1:=by
 first|rfl|simp[Around.under,Code.cUnits,Code.frames,Code.isFrame]
theorem jh.make{k:Nat}{A:Around}(r:jh (k+1) A)(C:Addr)(a:WP)(b:List (Str × Value)):jh k (A.under (.builtin "type.__call__" ⟨↥C::a,b⟩)) :=
 ⟨r.hd,by have:=r.dp;rw[G2];lia,by have:=r.un;rw[G3];lia⟩
def jh.depth{k:Nat}{A:Around}(r:jh k A):A.depth<recursionLimit:=by have:=r.dp;lia
def jh.units{k:Nat}{A:Around}(r:jh k A):A.units+64<cLine:=by have:=r.un;lia
def yk:TA:=λ_ H Q=>Q [] H
def Nb(b:TE)(c:TA):TA:=fun a H Q=>b a H λx d=>c a d λa d=>Q (x::a) d
section
variable {X:Cx} {e:Expr} {es:List Expr} {te:TE} {t:TA} {pos:Pos}
theorem ah:PA X [] yk:=λ_ _ _ _ H Q I h=>Calls.spliced_nil ⟨[],H,I,.nil,h⟩
def aa(c:PE X e te)(d:PA X es t)(f:starEach (e::es) X.env=(false,eval e X.env)::starEach es X.env:=by rfl):PA X (e::es) (Nb te t):=by
 intro pos a s b H Q I h;rw[f];show wpAny _ _ (spliced ((false,eval e X.env)::backTo pos (starEach es X.env))) _ _ s;refine Calls.spliced_cons (dN (c a s b H _ I h) λu g h=>?_);let⟨x,i,j,k,l⟩:=h;exact dN (d pos a g b i _ j l) λj l ⟨a,b,g,h,i⟩=>⟨x::a,b,g,.cons k h,i⟩
def mx(t:TA):TE:=fun a H Q=>t a H λa b=>↑a<=sizeLine/\∀ p,b p=none->Q ↥p (aL b p (.tup a))
def KJ(t:TA):TE:=fun a H Q=>t a H λa b=>↑a<=sizeLine/\∀ p,b p=none->Q ↥p (aL b p (.lst a))
def cZ{d}(h:PA X es t):PE X (.Tuple es d pos) (mx t):=by
 intro a s b H Q I c;refine wpAny_Tuple_spliced (dN (h pos a s b H _ I c) λf a ⟨g,b,c,r,z,q⟩=>⟨by rw[← ↑r];exact z,?_⟩);let i:b a.heap.objs.size=none:=c.hok.fresh (fH _);refine⟨↥a.heap.objs.size,aL b a.heap.objs.size (.tup g),c.laid (t':=a.toks) (λb u e=>Heap.get?_push_of_some _ e) (fH _) ?_,1,q _ i⟩;exact⟨z,f,r,⟨_,Heap.get?_push_size _ rfl,1,Y⟩⟩
def bJ(h:PA X es t):PE X (.List es pos) (KJ t):=by
 intro a s b H Q I c;refine wpAny_List_spliced (dN (h pos a s b H _ I c) λd a ⟨f,b,c,r,z,q⟩=>⟨by rw[← ↑r];exact z,?_⟩);let g:b a.heap.objs.size=none:=c.hok.fresh (fH _);refine⟨↥a.heap.objs.size,aL b a.heap.objs.size (.lst f),c.laid (t':=a.toks) (λb u e=>Heap.get?_push_of_some _ e) (fH _) ?_,1,q _ g⟩;exact⟨z,d,0,r,Heap.get?_push_size _ rfl⟩
end
abbrev Sp:=List V->Hp->VK->XK->Prop
abbrev KL:=List Env->Hp->Shared->XK->Value->Shared->Prop
structure G4(P:Program)(w:World)(K:Frag)(mg:Ya)(zt:Heap)(A:Around)(zn:List Env)(s:Shared)(H:Hp):Prop where
 frames:A.frames=⇑zn
 mod:Mod K mg zt
 bs:∀ b o,zt.get? b=⇑o->s.heap.get? b=⇑o/\H b=none
 TZ:zt.objs.size<=s.heap.objs.size
 xr:s.heap.FunFrames zt zn
 Vd:∀ b∈MU zn,H b=none
 hok:tK P w H s.heap
 bare:AllBare s.gens
def CE(c:List Env)(P:Program)(w:World)(H:Hp)(s:Shared)(Q:VK)(u:Value)(a:Shared):Prop :=
 ∃ v b,a.os=s.os/\AllBare a.gens/\Un (MU c) [] H b s.heap a.heap/\tK P w b a.heap/\RelV v u/\Q v b
def CR(c:KL)(a:List Env)(P:Program)(w:World)(H:Hp)(s:Shared)(Q:VK)(E:XK)(r:Result)(b:Shared):Prop :=
 match r with
 | .ok (.ret u)=>CE a P w H s Q u b
 | .ok _=>False
 | .error e=>c a H s E e b
structure bq(P:Program)(w:World)(K:Frag)(mg:Ya)(zt:Heap)(CX:KL)(k:Nat)(f:Addr)(fd:FuncData)(ps:UV)(sp:Sp):Prop where
 len:∀ vs H Q E,sp vs H Q E->↑vs=↑ps
 run:∀ (A:Around) (zn:List Env) (s:Shared) (H:Hp) (args:Args) (us:WP) (vs:List V) (Q:VK) (E:XK),jh k A->G4 P w K mg zt A zn s H->BindsTo s fd args (ps.zip us)->cE vs us->sp vs H Q E->
  codeAny (model P w) A (.call ↥f args) (CR CX zn P w H s Q E) s
theorem G4.make{P:Program}{w:World}{K:Frag}{a:Ya}{b:Heap}{A:Around}{c:List Env}{s:Shared}{H:Hp}(e:G4 P w K a b A c s H)(C:Addr)(d:WP)(f:List (Str × Value)) :
  G4 P w K a b (A.under (.builtin "type.__call__" ⟨↥C::d,f⟩)) c s H:=⟨by first|exact e.frames|(simpa [Around.under,Code.envs,Code.isFrame,pushEnvs] using e.frames),e.mod,e.bs,e.TZ,e.xr,e.Vd,e.hok,e.bare⟩
section
variable {X:Cx} {au:List (Addr × Obj)} {σ:St} {H:Hp} {s s':Shared}
theorem Inv.YT(I:Inv X au σ H s):G4 X.prog X.w X.K X.mg X.zt X.A X.stack s H :=
 ⟨I.ok.frames,I.ok.mod,I.bs,iC I.ok.TZ I.sz,I.stack,I.Je,I.hok,I.bare⟩
def Inv.after{Q:VK}{u:Value}(I:Inv X au σ H s)(h:CE X.stack X.prog X.w H s Q u s'):EP X au σ Q u s':=by
 let⟨v,a,os,bare,un,hok,r,q⟩:=h;let⟨b,g,d,t,c⟩:=s';obtain rfl:c=s.os:=os;exact⟨v,a,I.call (h':=b) (h:=g) (p:=d) (l:=t) (f:=[]) un hok bare (λb z=>absurd z (by simp)),r,q⟩
end
def Jp(a:Sp)(b:List V)(E:XK)(t:TA):TE:=fun c H Q=>t c H λc d=>a (c++b) d Q E
inductive Vt(C:Addr)(m:Str)(x:V)(H:Hp)(N:Prop):Prop
 | mk (a c:Addr) (b:List (Str × V)) (_:x=↥a) (_:H a=⇑(.ins C c b)) (_:b.lookup m=none) (_:N):Vt C m x H N
def Jq(C:Addr)(m:Str)(c:Sp)(d:List V)(E:XK)(e:TE)(t:TA):TE:=fun a H Q=>e a H λx b=>Vt C m x b (t a b λa b=>c (x::(a++d)) b Q E)
def YU(C:Addr)(c:Sp)(d:List V)(E:XK)(t:TA):TE:=fun a H Q=>t a H λe b=>∀ x a,b x=none->b a=none->a≠x->
 c (.ref x::(e++d)) (aL (aL b a (.own x)) x (.ins C a [])) (λv a=>v=.gc/\Q ↥x a) E
def Binds(K:Frag)(d:FuncData)(b:UV)(c:WP):Prop :=
 ∀ (s:Shared) (a:WP),K.In s.heap->↑(a++c)=↑b->BindsTo s d ⟨a,[]⟩ (b.zip (a++c))
theorem Binds.all{K:Frag}{b:UV}(h:∀ a:List Value,↑a=↑b->bindArgs d ⟨a,[]⟩=pure (b.zip a)):Binds K d b []:=λs a _ c=>by
 rw[gV]at c ⊢;exact .of_eq (h a c)
def nh(c:KL)(a:Cx)(E:XK):Prop:=∀ (d:List (Addr × Obj)) (f:St) (H:Hp) (s:Shared) (e:Value) (b:Shared),Inv a d f H s->c a.stack H s E e b->a.xe e b
section
variable {X:Cx} {CX:KL} {k:Nat} {f C:Addr} {i:FuncData} {ps:UV} {sp:Sp} {g:List V} {d:WP} {E:XK} {x m:Str} {p c jX:Pos} {e o:Expr} {es:List Expr} {ta:TE} {t:TA}
theorem CA{j:St}{H:Hp}{s:Shared}{Q:VK}{a:WP}{h:List V}(l:bq X.prog X.w X.K X.mg X.zt CX k f i ps sp)(v:jh k X.A)(w:Binds X.K i ps d)(y:cE g d)(z:nh CX X E)
  (I:Inv X n j H s) (r:cE h a) (q:sp (h++g) H Q E):wpAny (model X.prog X.w) X.A (call ↥f a) (EP X n j Q) X.xe s:=by
 let c:cE (h++g) (a++d):=r.append y;let m:↑(a++d)=↑ps:=by rw[← ↑c];exact l.len _ _ _ _ q
 refine wpAny_call (codeAny_mono (l.run X.A X.stack s H ⟨a,[]⟩ (a++d) (h++g) Q E v I.YT (w s a I.we m) c q) λr o b=>?_)
 cases r with
 | error e=>exact z n j H s e o I b
 | ok fl =>
  cases fl with
  | ret u=>exact I.after b
  | next=>exact False.elim b
  | brk=>exact False.elim b
  | cont=>exact False.elim b
theorem Jr(b:bq X.prog X.w X.K X.mg X.zt CX k f i ps sp)(h:jh k X.A)(j:Gl X x)(l:X.mg x=⇑↥f)(n:keepIn X.K ↥f=true)(q:Binds X.K i ps d)(r:cE g d)(u:nh CX X E)
  (v:PA X (e::es) t) (w:(x == ("__debug__":Str))=false:=by decide) (y:starEach (e::es) X.env=(false,eval e X.env)::starEach es X.env:=by rfl) (z:(backTo c (starEach es X.env)).any (·.1)=false:=by rfl) :
  PE X (.Call (.Name x p) (e::es) [] c) (Jp sp g E t):=by
 intro a s m H Q I o;refine wpAny_Call_Name_kw (xO I j l ?_ w);refine callWith_K (h₀:=X.zt) I.ok.mod.c' n (dN (v c a s m H _ I o) λA B ⟨C,D,a,m,o⟩=>⟨a.we,?_⟩) y z;exact CA b h q r u a m o
theorem Nc(a:bq X.prog X.w X.K X.mg X.zt CX k f i ps sp)(b:jh k X.A)(h:Gl X x)(j:X.mg x=⇑↥f)(l:keepIn X.K ↥f=true)(n:Binds X.K i ps d)(q:cE g d)(r:nh CX X E)
  (u:(x == ("__debug__":Str))=false:=by decide):PE X (.Call (.Name x p) [] [] c) (Jp sp g E yk):=by
 intro m s o H Q I e;refine wpAny_Call_Name_kw (xO I h j ?_ u);exact callWith_K0 I.we l (CA (a:=[]) a b n q r I .nil e)
theorem QT{b:Sem Bool}(q:PE X o ta)(r:MF X.K C)(h:Na X.K C m f)(u:bq X.prog X.w X.K X.mg X.zt CX k f i ps sp)(v:jh k X.A)(w:Binds X.K i ps d)(y:cE g d)(z:nh CX X E)(A:PA X (e::es) t)
  (B:starEach (e::es) X.env=(false,eval e X.env)::starEach es X.env:=by rfl) (D:(backTo c (starEach es X.env)).any (·.1)=false:=by rfl)
  (G:eval (.Call (.Attribute o m jX) (e::es) [] c) X.env=(do
   let j ← eval o X.env
   standAt jX.atName
   let (f,first) ← holding [j] (getMethod j m b)
   callWith c f first (backTo c (starEach (e::es) X.env)) (backToKw c (keywordEach [] X.env))):=by rfl) :
  PE X (.Call (.Attribute o m jX) (e::es) [] c) (Jq C m sp g E ta t):=by
 intro l s n H Q I F;refine methodCall_KW (pl:=b) (dN (q l s n H _ I F) λJ L ⟨x,M,p,N,a,F,H,O,R,S,T⟩=>?_) G;subst O;obtain rfl:J=Value.ref a:=N;refine yi p R r h S ?_
 refine callWith_K (first:=[↥a]) (h₀:=X.zt) I.ok.mod.c' h.kp (dN (A c l L n M _ p T) λn F ⟨p,H,l,U,W⟩=>⟨l.we,?_⟩) B D
 exact CA (a:=↥a::n) (h:=↥a::p) u v w y z l (.cons rfl U) W
theorem Nd{h:Sem Bool}(n:PE X o ta)(q:MF X.K C)(j:Na X.K C m f)(r:bq X.prog X.w X.K X.mg X.zt CX k f i ps sp)(u:jh k X.A)(v:Binds X.K i ps d)(w:cE g d)(y:nh CX X E)
  (z:eval (.Call (.Attribute o m jX) [] [] c) X.env=(do
   let l ← eval o X.env
   standAt jX.atName
   let (f,first) ← holding [l] (getMethod l m h)
   callWith c f first (backTo c (starEach [] X.env)) (backToKw c (keywordEach [] X.env))):=by rfl) :
  PE X (.Call (.Attribute o m jX) [] [] c) (Jq C m sp g E ta yk):=by
 intro e s p H Q I t;refine methodCall_KW (pl:=h) (dN (n e s p H _ I t) λA e ⟨x,p,b,B,a,t,H,D,F,G,J⟩=>?_) z;subst D;obtain rfl:A=Value.ref a:=B;refine yi b F q j G ?_
 exact callWith_K0 (first:=[↥a]) b.we j.kp (CA (a:=[↥a]) (h:=[↥a]) r u v w y b (.cons rfl .nil) J)
structure Mk(K:Frag)(C f:Addr):Prop where
 makes:makesIn K C=true
 init:findIn K ↥C "__init__"=⇑(⇑↥f)
 fn:isFn K ↥f=true
 kp:keepIn K ↥C=true
theorem Nf{j:St}{H:Hp}{s:Shared}{Q:VK}{a:WP}{l:List V}(M:Mk X.K C f)(n:bq X.prog X.w X.K X.mg X.zt CX k f i ps sp)(w:jh (k+1) X.A)(y:Binds X.K i ps d)(z:cE g d)
  (A:nh CX X E) (I:Inv X q j H s) (r:cE l a)
  (B:∀ x h,H x=none->H h=none->h≠x->sp (.ref x::(l++g)) (aL (aL H h (.own x)) x (.ins C h [])) (λv D=>v=.gc/\Q ↥x D) E) :
  wpAny (model X.prog X.w) X.A (call ↥C a) (EP X q j Q) X.xe s:=by
 let m:=B (s.heap.objs.size+1) s.heap.objs.size (I.hok.fresh (Nat.le_succ _)) (I.hok.fresh (fH _)) (jN (Nat.lt_succ_self _));let c:=Inv.made (C:=C) I;let o:cE (V.ref (s.heap.objs.size+1)::(l++g)) (Value.ref (s.heap.objs.size+1)::(a++d)):=.cons rfl (r.append z)
 let p:↑(Value.ref (s.heap.objs.size+1)::a++d)=↑ps:=by
  let e:=↑o;rw[n.len _ _ _ _ m]at e;exact e.symm
 refine wpAny_call (M9 (f:=f) I.we M.makes M.init (beq_iff_eq.mp M.fn) (codeAny_mono (n.run _ X.stack _ _ ⟨Value.ref (s.heap.objs.size+1)::a,[]⟩ (Value.ref (s.heap.objs.size+1)::(a++d)) _ _ E (w.make C a []) (c.YT.make C a []) (y _ (Value.ref (s.heap.objs.size+1)::a) c.we p) o m) λr t b=>?_))
 cases r with
 | error e=>exact A q j _ _ e t c b
 | ok fl =>
  cases fl with
  | ret u =>
   let⟨v,F,G,J,L,N⟩:=c.after b;subst L;exact⟨J,⟨V.ref (s.heap.objs.size+1),F,G,1,N⟩⟩
  | next=>exact False.elim b
  | brk=>exact False.elim b
  | cont=>exact False.elim b
theorem nJ(M:Mk X.K C f)(a:bq X.prog X.w X.K X.mg X.zt CX k f i ps sp)(b:jh (k+1) X.A)(h:Gl X x)(j:X.mg x=⇑↥C)(l:Binds X.K i ps d)(n:cE g d)(q:nh CX X E)
  (r:(x == ("__debug__":Str))=false:=by decide):PE X (.Call (.Name x p) [] [] c) (YU C sp g E yk):=by
 intro m s o H Q I e;refine wpAny_Call_Name_kw (xO I h j ?_ r);exact callWith_K0 I.we M.kp (Nf (a:=[]) M a b l n q I .nil e)
end
structure qD(N P:UV)(sc:Scope):Prop where
 kind:sc.kind=.function
 co:sc.isCoroutine=false
 gen:sc.isGenerator=false
 nd:N.Nodup
 pre:N.take ↑P=P
 par:∀ x∈P,sc.names.lookup x=⇑.local\/sc.names.lookup x=⇑.cell
 Vv:∀ y∈sc.names,y.2≠.free
theorem Bh{b:Str->Option NameKind}{x:Str}:∀ {a:List (Str × Value)} {m:Ya},(∀ v,(x,v)∉a)->bindL b a m x=m x
 | [],_,_=>rfl
 | (n,v)::r,m,h=>by
  unfold bindL;rw[Bh λw c=>h w (kY _ c)];split
  ·have:x≠n:=by rintro rfl;exact h v rY
   simp[this]
  ·rfl
theorem Bj{b:Str->Option NameKind}{x:Str}:∀ {a:List (Str × Value)} {m:Ya},(∀ v,(x,v)∉a)->bindC b a m x=m x
 | [],_,_=>rfl
 | (n,v)::r,m,h=>by
  unfold bindC;rw[Bj λw c=>h w (kY _ c)];split
  ·rfl
  ·have:x≠n:=by rintro rfl;exact h v rY
   simp[this]
theorem Bk{b:Str->Option NameKind}{x:Str}{v:Value}:∀ {P:UV} {a:WP} {i:Nat} {m:Ya},P.Nodup->P[i]?=⇑x->a[i]?=⇑v->b x=⇑.local->
  bindL b (P.zip a) m x=⇑v
 | [],_,_,_,_,h,_,_=>by simp at h
 | _::_,[],_,_,_,_,h,_=>by simp at h
 | p::P,w::a,0,m,nd,c,d,e=>by
  simp at c d;subst c;subst d;show bindL b ((p,w)::P.zip a) m p=_;unfold bindL;rw[Bh λv f=>(List.nodup_cons.mp nd).1 (List.of_mem_zip f).1,if_pos e];simp
 | p::P,w::a,i+1,m,nd,c,d,e=>by
  show bindL b ((p,w)::P.zip a) m x=_;unfold bindL;exact Bk (i:=i) (List.nodup_cons.mp nd).2 (by simpa using c) (by simpa using d) e
theorem Bm{b:Str->Option NameKind}{x:Str}{v:Value}:∀ {P:UV} {a:WP} {i:Nat} {m:Ya},P.Nodup->P[i]?=⇑x->a[i]?=⇑v->b x≠some .local->
  bindC b (P.zip a) m x=⇑v
 | [],_,_,_,_,h,_,_=>by simp at h
 | _::_,[],_,_,_,_,h,_=>by simp at h
 | p::P,w::a,0,m,nd,c,d,e=>by
  simp at c d;subst c;subst d;show bindC b ((p,w)::P.zip a) m p=_;unfold bindC;rw[Bj λv f=>(List.nodup_cons.mp nd).1 (List.of_mem_zip f).1,if_neg e];simp
 | p::P,w::a,i+1,m,nd,c,d,e=>by
  show bindC b ((p,w)::P.zip a) m x=_;unfold bindC;exact Bm (i:=i) (List.nodup_cons.mp nd).2 (by simpa using c) (by simpa using d) e
def start(N:UV)(a:List V):St:=a.map some++List.replicate (↑N-↑a) none
def CC(e:KL)(P:Program)(w:World)(K:Frag)(mg:Ya)(zt:Heap)(N:UV)(a:Str)(b:Scope)(f:Addr)(c:Value)(A:Around)(zn:List Env)(s:Shared)(H:Hp)(E:XK):Cx where
 prog:=P
 w:=w
 K:=K
 mg:=mg
 zt:=zt
 A:=A.deeper (envOfC a b s.heap.objs.size f c)
 N:=N
 s₀:=s
 H₀:=H
 env:=envOfC a b s.heap.objs.size f c
 zn:=zn
 stack:=envOfC a b s.heap.objs.size f c::zn
 ex:=[]
 calm:=true
 fn:=λ_=>true
 pn:=[]
 xe:=λg h=>wpAny (model P w) (A.deeper (envOfC a b s.heap.objs.size f c)) (leaving (envOfC a b s.heap.objs.size f c) g) (λ_ d=>e zn H s E g d) (λg d=>e zn H s E g d) h
theorem aS{a:KL}{P:Program}{w:World}{K:Frag}{b:Ya}{c:Heap}{N:UV}{d:Str}{e:Scope}{f:Addr}{g:Value}{A:Around}{h:List Env}{s:Shared}{H:Hp}{E:XK}:(CC a P w K b c N d e f g A h s H E).K=K:=rfl
theorem aH{a:KL}{P:Program}{w:World}{K:Frag}{b:Ya}{c:Heap}{N:UV}{d:Str}{e:Scope}{f:Addr}{g:Value}{A:Around}{h:List Env}{s:Shared}{H:Hp}{E:XK}:(CC a P w K b c N d e f g A h s H E).Ji.K=K:=rfl
def Ek{a:Scope}{n:Nat}{x:Str}(h:a.names.lookup x=⇑.cell):∃ c,(cellsFrom n a.names []).lookup x=⇑c:=by
 let q:=cellsFrom_some a.names n [] (.inl h);exact Option.isSome_iff_exists.mp q
theorem KP{G:KL}{P:Program}{w:World}{K:Frag}{u:Ya}{v:Heap}{N f:UV}{o:Str}{c:Scope}{p:Addr}{q:Value}{A:Around}{B:List Env}{s I:Shared}{H:Hp}{E:XK}{C:WP}{g:List V}
  (h:qD N f c) (M:A.handled=none) (e0:G4 P w K u v A B s H) (T:↑g=↑f) (O:cE g C)
  (x:InCallC s s.heap.objs.size (bindL (envOfC o c s.heap.objs.size p q).kindOf (f.zip C) λ_=>none) (cellsFrom (s.heap.objs.size+1) c.names []) (bindC (envOfC o c s.heap.objs.size p q).kindOf (f.zip C) λ_=>none) I) :
  Inv (CC G P w K u v N o c p q A B s H E) [] (start N g) H I:=by
 let d:↑f<=↑N:=by have:=congrArg List.length h.pre;rw[gm]at this;lia
 let⟨r,z,rfl,F⟩:=x.done;let D:∀ d:Addr,d∉(CC G P w K u v N o c p q A B s H E).ex:=λd z=>absurd (show d∈([]:WF) from z) (by simp)
 exists ⟨e0.mod,h.kind,V,fH _,λy z e r b=>?_,λy i=>?_,λy e _ j=>?_,λ_=>M,Around.frames_deeper e0.frames,.inr ⟨V⟩,λd z=>absurd z (D d),e0.bs,e0.TZ,λd _ _=>D d,λd z=>absurd z (D d),e0.xr,e0.Vd⟩,
  rfl,e0.bare,Un.kept F,⟨_,x.toInCall.ns,λl y R r b d=>?_⟩,λy e j=>⟨_,x.cell y e j⟩,e0.hok.fresh (fH _),λy e j=>?_,λd m=>absurd (show d∈([]:List (Addr × Obj)) from m) (by simp),e0.hok.kept F
 ·exact name_of_addr x.apart (PySem.mem_of_lookup r) (PySem.mem_of_lookup b)
 ·let i:c.names.lookup y=⇑.cell\/c.names.lookup y=⇑.free:=i;rcases i with i|i
  ·exact Ek i
  ·exact absurd rfl (h.Vv _ (PySem.mem_of_lookup i))
 ·exact gn (x.above y e (PySem.mem_of_lookup j))
 ·let t:l<↑g:=by
   unfold start at b;by_cases t:l<↑g
   ·exact t
   ·rw[List.getElem?_append_right (by simpa using t)]at b;rw[List.getElem?_replicate]at b
    split at b <;> cases b
  let S:g[l]?=⇑R:=by
   unfold start at b;rw[List.getElem?_append_left (by simpa using t),fK]at b
   cases n:g[l]? with
   | none=>rw[n]at b;cases b
   | some a=>rw[n]at b;cases b;rfl
  let⟨b,J,d⟩:=O.get S
  let m:f[l]?=⇑y:=by
   rw[← h.pre,List.getElem?_take_of_lt ∅];exact r
  let L:f.Nodup:=by rw[← h.pre];exact h.nd.sublist (List.take_sublist _ _)
  exists b,d;rcases h.par y (lK m) with k|k
  ·exact .inl ⟨k,Bk L m J k⟩
  ·let⟨e,n⟩:=Ek (n:=s.heap.objs.size+1) k;refine .inr ⟨.inl k,e,n,?_⟩;let b:=x.cell y e n;rw[Bm L m J (by show c.names.lookup y≠_;rw[k];decide)]at b;exact b
 ·exact e0.hok.fresh (gn (x.above y e (PySem.mem_of_lookup j)))
 ·unfold start;show _=↑N;rw[dh,cC,xo];lia
theorem YW{j:KL}{P:Program}{w:World}{K:Frag}{k:Ya}{l:Heap}{B:Nat}{f:Addr}{name d:Str}{C:Arguments}{a:Scope}{D kV G I e L oc:Value}{M od:Option Addr}
  {MG:Array (XB)} {N m:UV} {p:Sp} (lk:K.lookup f=some ⟨oc,od,.func (fnOf name d C O a D kV G I M e L),MG⟩) (MW:codeIn K e d=true) (i:qD N m a)
  (T:∀ b H Q E,p b H Q E->↑b=↑m)
  (El:∀ (A:Around) (g:List Env) (s:Shared) (H:Hp) (b:List V) (Q:VK) (E:XK),jh B (A.deeper (envOfC d a s.heap.objs.size f e))->p b H Q E->
   ∃ t,Jh (CC j P w K k l N d a f e A g s H E) O t/\t { nx:=λ_ c=>Q .gc c,rt:=Q } (start N b) H) :
  bq P w K k l j (B+1) f (fnOf name d C O a D kV G I M e L) m p:=by
 refine⟨T,λA g s H args X b Q E r e0 hb ab F=>?_⟩;let hl:=T _ _ _ _ F;let R:K.In s.heap:=e0.mod.c'.keeps λx y n=>(e0.bs x y n).1;have ae:s.heap.NoLimit:=e0.mod.nolimit.keeps λx y n=>(e0.bs x y n).1
 let ag:∀ y∈m.zip X,a.names.lookup y.1=⇑.local\/(a.names.lookup y.1=⇑.cell/\((cellsFrom (s.heap.objs.size+1) a.names []).lookup y.1).isSome=true):=λ⟨ai,v⟩ hy=>by
  rcases i.par ai (List.of_mem_zip hy).1 with q|q
  ·exact .inl q
  ·exact .inr ⟨q,cellsFrom_some _ _ _ (.inl q)⟩
 refine codeAny_call_function r.depth (R _ _ lk) rfl i.co i.gen rfl (PySem.W.codeRec_of R MW) (hb _ _ _ _ ?_);refine wpAny_newFunctionEnv_cells i.kind ag λx he S U=>?_;subst he;refine⟨ae.keeps U.toInCall.keep,codeAny_func ?_⟩;let⟨t,x,y⟩:=El A g s H b Q E (r.deeper _) F;have F:Inv (CC j P w K k l N d a f e A g s H E) [] (start N b) H S:=KP i r.hd e0 hl ab U;refine wpAny_mono (x [] S (start N b) H _ F y) (λfl r h=>?_) λn r h=>h;have W:∀ {o:St} {c:Hp} {v:V} {u:Value},Inv (CC j P w K k l N d a f e A g s H E) [] o c r->RelV v u->Q v c->CE g P w H s Q u r := λ{o c v u} J z q=>⟨v,c,J.os,J.bare,J.zt,J.hok,z,q⟩
 cases fl with
 | ret u =>
  let⟨v,o,c,J,z,q⟩:=h;exact W J z q
 | next =>
  let⟨o,c,J,q⟩:=h;exact W (v:=V.gc) (u:=Value.none) J rfl q
 | brk =>
  let⟨_,_,_,q⟩:=h;exact False.elim q
 | cont =>
  let⟨_,_,_,q⟩:=h;exact False.elim q
end _L2
namespace _L2
open Spec Rows
section
variable {X:Cx} {x:Str} {p pos:Pos} {e:Expr} {es:List Expr} {t:TA} {id T:String} {r:List V->Hp->VK->Prop}
def eR(r:List V->Hp->VK->Prop)(t:TA):TE:=fun a H Q=>t a H λa b=>r a b Q
theorem bU(c:jQ X (.builtin id) r)(d:Gl X x)(f:X.mg x=none)(g:bootBuiltins x=⇑(.builtin id))(h:PA X (e::es) t)(i:x≠"__name__":=by decide)(j:(x == ("__debug__":Str))=false:=by decide)
  (k:starEach (e::es) X.env=(false,eval e X.env)::starEach es X.env:=by rfl) (l:(backTo pos (starEach es X.env)).any (·.1)=false:=by rfl):PE X (.Call (.Name x p) (e::es) [] pos) (eR r t):=by
 intro a s b H Q I m;refine wpAny_Call_Name_kw (vc I d f g ?_ i j);exact PyProof.Rows.callWith_builtin1 (dN (h pos a s b H _ I m) λm n ⟨o,q,u,v,w⟩=>c a n b q o m Q u v w) k l
theorem fZ(c:jQ X (.type T) r)(d:Gl X x)(f:X.mg x=none)(g:bootBuiltins x=⇑(.type T))(h:PA X (e::es) t)(i:x≠"__name__":=by decide)(j:(x == ("__debug__":Str))=false:=by decide)
  (k:starEach (e::es) X.env=(false,eval e X.env)::starEach es X.env:=by rfl) (l:(backTo pos (starEach es X.env)).any (·.1)=false:=by rfl):PE X (.Call (.Name x p) (e::es) [] pos) (eR r t):=by
 intro a s b H Q I m;refine wpAny_Call_Name_kw (vc I d f g ?_ i j);exact PyProof.Rows.callWith_type1 (dN (h pos a s b H _ I m) λm n ⟨o,q,u,v,w⟩=>c a n b q o m Q u v w) k l
end
end _L2
namespace _HT
open Rows
section
variable {prog:Program} {w:World} {A:Around} {E:ZB} {s:Shared}
def gH(n d:Nat):Option Int->Nat
 | none=>d
 | some v=>if v<0 then (v+(n:Int)).toNat else min v.toNat n
def Js(n d k:Nat):gH n d (⇑(k:Int))=min k n:=by
 show (if (k:Int)<0 then ((k:Int)+(n:Int)).toNat else min (k:Int).toNat n)=min k n;rw[if_neg ∅,Int.toNat_natCast]
def Vw(n d:Nat)(b:d<=n)(o:Option Int):gH n d o<=n:=by
 cases o with
 | none=>exact b
 | some v =>
  show (if v<0 then (v+(n:Int)).toNat else min v.toNat n)<=n;by_cases a:v<0
  ·rw[if_pos a];lia
  ·rw[if_neg a];exact Nat.min_le_right _ _
def Jt(v:Int)(n d:Nat):(if v<0 then max (v+(n:Int)) 0 else min v (n:Int))=((gH n d (⇑v):Nat):Int):=by
 show (if v<0 then max (v+(n:Int)) 0 else min v (n:Int))=(((if v<0 then (v+(n:Int)).toNat else min v.toNat n):Nat):Int);by_cases a:v<0
 ·simp only[if_pos a];lia
 ·simp only[if_neg a];lia
def G5(lo a:Option Int)(n:Nat):Builtin.Slice.sliceAdjust lo a 1 (n:Int)=(((gH n 0 lo:Nat):Int),((gH n n a:Nat):Int)):=by
 let b:¬ ((1:Int)<0):=by lia
 unfold Builtin.Slice.sliceAdjust;simp only[b,if_false];refine Prod.ext ?_ ?_
 ·cases lo with
  | none=>rfl
  | some v=>exact Jt v n 0
 ·cases a with
  | none=>rfl
  | some v=>exact Jt v n n
def G6(i j:Nat):Builtin.Slice.slicePlaces (i:Int) (j:Int) 1=j-i:=by
 unfold Builtin.Slice.slicePlaces;let a:(1:Int) > 0:=by lia
 simp only[a,if_true,Int.ediv_one]
 split <;> lia
def yo{v:Value}{o:Option Int}{Q:Option Int->Shared->Prop}(p:IsPart v o)(h:Q o s):wpAny (model prog w) A (Builtin.Slice.slicePartIndex v) Q E s:=by
 cases p with
 | none=>exact slicePart_none h
 | int i t=>exact slicePart_int h
theorem vg{e:Addr}{b c:Value}{lo a:Option Int}{n:Nat}{Q:Int × Int × Nat->Shared->Prop}(f:s.heap.IsSliceOf e b c .none)(g:IsPart b lo)(h:IsPart c a)
  (i:Q (((gH n 0 lo:Nat):Int),1,gH n n a-gH n 0 lo) s):wpAny (model prog w) A (Builtin.Slice.sliceApplied ↥e (pure (n:Int))) Q E s:=by
 let⟨j,d,k,Ju⟩:=id f;unfold Builtin.Slice.sliceApplied Builtin.Slice.sliceFields;refine wpAny_bind (wpAny_bind (wpAny_field d Ju (x:=b) rfl (wpAny_bind (wpAny_field d Ju (x:=c) rfl (wpAny_bind (wpAny_field d Ju (x:=.none) rfl (wpAny_pure ?_)))))));refine wpAny_bind (slicePart_none ?_);show wpAny _ _ (if ((1:Int) == 0)=true then _ else _) _ _ s;rw[if_neg (by decide)];refine wpAny_bind (yo g (wpAny_bind (yo h (wpAny_bind (wpAny_pure ?_)))));show wpAny _ _ (match Builtin.Slice.sliceAdjust lo a 1 (n:Int) with|(lo,a)=>pure (lo,(1:Int),Builtin.Slice.slicePlaces lo a 1)) _ _ s;rw[G5 lo a n];show wpAny _ _ (pure (((gH n 0 lo:Nat):Int),(1:Int),Builtin.Slice.slicePlaces ((gH n 0 lo:Nat):Int) ((gH n n a:Nat):Int) 1)) _ _ s;rw[G6];exact wpAny_pure i
def Ng(a:Xt)(i k:Nat):((List.range k).filterMap λ(m:Nat)=>a[((i:Int)+(m:Int)*1).toNat]?).toArray=((a.toList.drop i).take k).toArray:=by
 let e:(λ(m:Nat)=>a[((i:Int)+(m:Int)*1).toNat]?)=λm=>a[i+m]?:=by
  funext m;have:((i:Int)+(m:Int)*1).toNat=i+m:=by lia
  rw[this]
 rw[e];have:=pick_run a i k;rw[List.filterMap_map]at this;let b:((λx=>a[x]?) ∘ λx=>i+x)=λm=>a[i+m]?:=rfl;rw[b]at this;rw[this]
theorem tO{t e:Addr}{a:Xt}{f g:Value}{lo b:Option Int}{Q:ZB}(c:IsTup s.heap t a)(i:s.heap.IsSliceOf e f g .none)(j:IsPart f lo)(k:IsPart g b)
  (l:¬ (gH a.size 0 lo=0/\gH a.size a.size b=a.size))
  (h:Q ↥s.heap.objs.size { s with heap:=s.heap.push { cls:=.type "tuple",data:=.seq ((a.toList.drop (gH a.size 0 lo)).take (gH a.size a.size b-gH a.size 0 lo)).toArray } })
  (r:a.size<=sizeLine):wpAny (model prog w) A (getItem ↥t ↥e) Q E s:=by
 let d:sizeOk (.seq ((a.toList.drop (gH a.size 0 lo)).take (gH a.size a.size b-gH a.size 0 lo)).toArray):=by
  show ((a.toList.drop (gH a.size 0 lo)).take (gH a.size a.size b-gH a.size 0 lo)).toArray.size<=sizeLine;rw[iB,gm,l9,Array.length_toList];lia
 let m:gH a.size a.size b<=a.size:=Vw _ _ (fH _) b;let⟨m,n,o,Ju⟩:=id i;let p:s.TypeIs ↥e "slice":=⟨m,n,o⟩;unfold getItem
 try with_reducible refine wpAny_holding ?_
 first|refine wpAny_bind (wpAny_pure ?_)|skip
 refine wpAny_bind (wpAny_sequenceKey c.typeIs (by decide) ?_);refine wpAny_bind (wpAny_callSpecial?_slot (name:=Str.ofString "__getitem__") c.typeIs PyProof.Rows.slot_tuple_getitem (wpAny_call_entry PyProof.Rows.slot_tuple_getitem c.typeIs entry_tuple_getitem ?_ (args_tuple_getitem _ _)));show wpAny _ _ (Builtin.Tuple.tupleItemsOf ↥t >>= _) _ _ s;refine wpAny_bind (tupleItemsOf_ c ?_);refine wpAny_bind (wpAny_typeOf p ?_);rw[if_pos (by decide)];refine wpAny_bind (vg i j k ?_)
 let m:¬ ((((gH a.size 0 lo:Nat):Int) == 0&&(1:Int) == 1&&(gH a.size a.size b-gH a.size 0 lo) == a.size)=true):=by
  intro q;rw[Bool.and_eq_true,Bool.and_eq_true]at q;let n:((gH a.size 0 lo:Nat):Int)=0:=eq_of_beq q.1.1;let n:gH a.size a.size b-gH a.size 0 lo=a.size:=eq_of_beq q.2;exact l ⟨by lia,by lia⟩
 show wpAny _ _ (if (((gH a.size 0 lo:Nat):Int) == 0&&(1:Int) == 1&&(gH a.size a.size b-gH a.size 0 lo) == a.size)=true then _ else _) _ _ s;rw[if_neg m,Ng]
 first
  | exact wpAny_bind (m:=Builtin.Tuple.tupleExact _) (wpAny_newObj_type (wpAny_pure ⟨Y,wpAny_pure h⟩) d)
  | exact wpAny_bind (m:=Builtin.Tuple.tupleExact _) (wpAny_newObj_type (wpAny_bind (wpAny_pure (wpAny_pure ⟨Y,wpAny_pure h⟩))) d)
  | exact wpAny_bind (wpAny_bind (m:=Builtin.Tuple.tupleExact _) (wpAny_newObj_type (wpAny_pure (wpAny_pure ⟨Y,wpAny_pure h⟩)) d))
  | exact wpAny_bind (wpAny_bind (m:=Builtin.Tuple.tupleExact _) (wpAny_newObj_type (wpAny_pure ⟨Y,wpAny_pure h⟩) d))
end
end _HT
namespace _L2
open Spec Rows
abbrev TO:=St->Hp->(Option Int->Hp->Prop)->Prop
def PO(a:Cx)(e:Option Expr)(t:TO):Prop :=
 ∀ (c:List (Addr × Obj)) (s:Shared) (b:St) (H:Hp) (Q:Option Int->Hp->Prop),Inv a c b H s->t b H Q->
  wpAny (model a.prog a.w) a.A (evalPart e a.env) (λu f=>∃ o d,Inv a c b d f/\IsPart u o/\Q o d) a.xe s
def QV:TO:=λ_ H Q=>Q none H
def YY(t:TE):TO:=fun a H Q=>t a H λx a=>kz x a Q
def intsAre_of{a:Wp}:∀ {b:WP},cE (a.map V.int) b->IntsAre b a:=by
 induction a with
 | nil=>intro b r;rw[List.map_nil]at r;cases r;exact .nil
 | cons n a c =>
  intro b r;rw[jv]at r
  cases r with
  | cons d e =>
   let⟨t,f⟩:=d;subst f;exact .cons n t (c e)
section
variable {X:Cx} {e:Expr} {te:TE} {lo c:Option Expr} {tl th:TO} {pos p2:Pos}
def kg:PO X none QV:=by
 intro a s b H Q I h;rw[evalPart_none];exact wpAny_pure ⟨none,H,I,.none,h⟩
def gj(h:PE X e te):PO X (⇑e) (YY te):=by
 intro a s b H Q I c;rw[evalPart_some];refine dN (h a s b H _ I c) λu b a=>?_;let⟨x,d,f,g,j⟩:=a;let⟨i,rfl,q⟩:=j;let⟨t,rfl⟩:=g;exact⟨⇑i,d,f,.int i t,q⟩
def eg(X:Cx)(r:V->Option Int->Option Int->Hp->VK->Prop):Prop :=
 ∀ (a:List (Addr × Obj)) (s:Shared) (b:St) (H:Hp) (x:V) (v d e:Value) (lo c:Option Int) (f:Addr) (Q:VK),Inv X a b H s->RelV x v->s.heap.IsSliceOf f d e .none->IsPart d lo->IsPart e c->r x lo c H Q->
  ∃ T d,typeLookup (.type T) "__getitem__"=pure (⇑(.builtin d))/\s.TypeIs v T/\wpAny (model X.prog X.w) X.A (getItem v ↥f) (EP X a b Q) X.xe s
def my(r:V->Option Int->Option Int->Hp->VK->Prop)(te:TE)(tl th:TO):TE:=fun a H Q=>te a H λx b=>tl a b λl b=>th a b λu a=>r x l u a Q
def gD{r:V->Option Int->Option Int->Hp->VK->Prop}(i:eg X r)(j:PE X e te)(k:PO X lo tl)(l:PO X c th):PE X (.Subscript e (.Slice lo c none p2) pos) (my r te tl th):=by
 intro b s d H Q I h;refine Subscript_ (dN (j b s d H _ I h) λv a f=>?_);let⟨x,g,h,m,n⟩:=f;refine wpAny_Slice (dN (k b a d g _ h n) λf a ⟨n,g,h,o,p⟩=>dN (l b a d g _ h p) λg a p=>?_);let⟨u,h,q,t,w⟩:=p;rw[evalPart_none];refine wpAny_pure ?_;let p:Inv X b d h { a with heap:=a.heap.push { cls:=.type "slice",data:=.fields (List.toArray [f,g,.none]) } }:=q.kept (t':=a.toks) λy z q=>Heap.get?_push_of_some _ q;let⟨T,A,q,y,z⟩:=i b { a with heap:=a.heap.push { cls:=.type "slice",data:=.fields (List.toArray [f,g,.none]) } } d h x v f g n u a.heap.objs.size Q p m (Heap.IsSliceOf.new ..) o t w;show wpAny (model X.prog X.w) X.A (subscriptTail e (.Slice lo c none p2) v ↥a.heap.objs.size) (EP X b d Q) X.xe { a with heap:=a.heap.push { cls:=.type "slice",data:=.fields (List.toArray [f,g,.none]) } };exact tail_any (ops:=[↥a.heap.objs.size,v]) y q z (by with_unfolding_all rfl)
def ir(a:List V)(lo c:Option Int):List V:=(a.drop (_HT.gH ↑a 0 lo)).take (_HT.gH ↑a ↑a c-_HT.gH ↑a 0 lo)
def wz(a:List V)(lo c:Option Int):↑(ir a lo c)<=↑a:=by
 unfold ir;rw[gm,l9];lia
def mB(K:Frag):V->Option Int->Option Int->Hp->VK->Prop:=λx lo c H Q=>∃ b a,x=↥b/\dO K H b a/\
 ¬ (_HT.gH ↑a 0 lo=0/\_HT.gH ↑a ↑a c=↑a)/\∀ p,H p=none->Q ↥p (aL H p (.tup (ir a lo c)))
def Vx:eg X (mB X.K):=by
 intro e s k H x v l m lo c n Q I b f g h d;let⟨o,a,rfl,i,j,q⟩:=d;cases b;let⟨k,r,d,e⟩:=I.tuple i;let b:k.toArray.size=↑a:=by rw[iB];exact r.length.symm
 exists "tuple",_,PyProof.Rows.slot_tuple_getitem.lookup,d.typeIs;refine _HT.tO d f g h (by rw[b];exact j) ?_ (by rw[b];exact e);rw[b];refine⟨↥s.heap.objs.size,_,I.laid (t':=s.toks) (o:=.tup (ir a lo c)) (λb d q=>Heap.get?_push_of_some _ q) (fH _) ?_,1,q _ (I.hok.fresh (fH _))⟩;exact⟨Nat.le_trans (wz a lo c) e,_,(r.drop (_HT.gH ↑a 0 lo)).take (_HT.gH ↑a ↑a c-_HT.gH ↑a 0 lo),IsTup.new _ _⟩
end
end _L2
namespace _L2
open Spec Rows
def Jw(n:Nat)(i:Int):Option Nat:=if 0<=i then (if i<n then some i.toNat else none) else if -(n:Int)<=i then some (i+n).toNat else none
def om{a:Type}(b:List a)(i:Int):Option a:=(Jw ↑b i).bind λj=>b[j]?
def Jx{n:Nat}{i:Int}{j:Nat}(h:Jw n i=⇑j):seqIndex? i n=⇑j/\j<n/\-(n:Int)<=i/\i<n:=by
 unfold Jw at h;by_cases b:0<=i
 ·rw[if_pos b]at h;by_cases a:i<n
  ·rw[if_pos a]at h;let e:i.toNat=j:=pQ h;exact⟨by rw[seqIndex_of b a,e],by lia,by lia,a⟩
  ·rw[if_neg a]at h;cases h
 ·rw[if_neg b]at h;by_cases a:-(n:Int)<=i
  ·rw[if_pos a]at h;let e:(i+n).toNat=j:=pQ h;exact⟨by rw[seqIndex_neg ∅ a,e],by lia,a,by lia⟩
  ·rw[if_neg a]at h;cases h
def CF{b:Type}{a:List b}{i:Int}{v:b}(h:om a i=⇑v):∃ j,seqIndex? i ↑a=⇑j/\a[j]?=⇑v/\j<↑a/\-(↑a:Int)<=i/\i<↑a:=by
 unfold om at h
 cases e:Jw ↑a i with
 | none=>rw[e]at h;cases h
 | some j =>
  rw[e]at h;let⟨c,d,f,g⟩:=Jx e;exact⟨j,c,h,d,f,g⟩
def cP{b:Type}{a:List b}{j:Nat}{v:b}(h:a[j]?=⇑v):om a (j:Int)=⇑v:=by
 let c:j<↑a:=(List.getElem?_eq_some_iff.mp h).1
 let e:Jw ↑a (j:Int)=⇑j:=by
  unfold Jw;rw[if_pos ∅,if_pos ∅];simp
 unfold om;rw[e];exact h
def Nh{b:Type}(a:List b)(v:b):om (a++[v]) (-1)=⇑v:=by
 let c:↑(a++[v])=↑a+1:=by simp
 let e:Jw ↑(a++[v]) (-1)=some ↑a:=by
  unfold Jw;rw[c,if_neg (by decide),if_pos ∅];congr 1;lia
 unfold om;rw[e];show (a++[v])[↑a]?=⇑v;simp
def Jy(b:Expr):Prop:=∀ o i,subscripted b false o i=operate [o,i] (getItem o i)
def XY(a:Cx)(r:R2):Prop :=
 ∀ (e b:Expr) (c:List (Addr × Obj)) (s:Shared) (d:St) (H:Hp) (x y:V) (v u:Value) (Q:VK),Inv a c d H s->RelV x v->RelV y u->r x y H Q->
  subscripted b false v u=operate [v,u] (getItem v u)->wpAny (model a.prog a.w) a.A (subscriptTail e b v u) (EP a c d Q) a.xe s
def gd(a:Cx)(f:String)(r:V->List V->Hp->VK->Prop):Prop :=
 ∀ (b:List (Addr × Obj)) (s:Shared) (c:St) (H:Hp) (x:V) (d:List V) (v:Value) (e:WP) (Q:VK),Inv a b c H s->RelV x v->cE d e->r x d H Q->
  wpAny (model a.prog a.w) a.A (call (.builtin f) (v::e)) (EP a b c Q) a.xe s
section
variable {X:Cx} {a b:Expr} {ta tb:TE} {pos:Pos}
def YZ{r:R2}(c:XY X r)(d:PE X a ta)(f:PE X b tb)(g:Jy b):PE X (.Subscript a b pos) (YK r ta tb):=by
 intro e s h H Q I i;exact Subscript_ (Vp d f I i λv u i x y j k l m q=>c a b e i h j x y v u Q k l m q (g _ _))
inductive mI(K:Frag)(x y:V)(H:Hp)(Q:VK):Prop
 | mk (p:Addr) (c:List V) (i:Int) (v:V) (_:x=↥p) (_:y=.int i) (_:bL K H p c) (_:om c i=⇑v) (_:Q v H)
inductive Y0(K:Frag)(x y:V)(H:Hp)(Q:VK):Prop
 | mk (p:Addr) (c:List V) (i:Int) (v:V) (_:x=↥p) (_:y=.int i) (_:dO K H p c) (_:om c i=⇑v) (_:Q v H)
def mM:R2:=λx y H Q=>∃ z i c,x=.str z/\y=.int i/\↑z<=sizeLine/\om z.cps.toList i=⇑c/\Q (.str ⟨(List.toArray [c])⟩) H
def bH:XY X (mI X.K):=by
 intro j k d s e H x y v u Q I a b h f;let⟨p,l,i,z,rfl,rfl,c,g,q⟩:=h;cases a;let⟨t,rfl⟩:=b;let⟨l,r,b,a⟩:=I.list c;let⟨j,a,c,h,m,n⟩:=CF g;let⟨w,g,k⟩:=r.get c;let o:=↑r;let c:=sj;let h:EP X d e Q w s:=⟨z,H,I,k,q⟩;by_cases k:0<=i
 ·let c:i.toNat=j:=by
   rw[seqIndex_of k n]at a;exact pQ a
  exact item_listR b.isList k ∅ (by rw[c];simpa using g) h f
 ·let c:(i+(l.toArray.size:Int)).toNat=j:=by
   rw[seqIndex_neg ∅ m]at a;rw[iB,← o];exact pQ a
  exact subscriptTail_builtinR (x:=w) b.isList.typeIs slot_list_getitem.lookup
   (wpAny_getItem_list_neg (Q:=λr a=>r=w/\EP X d e Q r a) b.isList ∅ (by rw[iB] <;> lia) ∅ (by rw[c];simpa using g) ⟨1,h⟩) f
def aZ:XY X (Y0 X.K):=by
 intro i j a s b H x y v u Q I c d h e;let⟨p,k,l,z,rfl,rfl,f,g,q⟩:=h;cases c;let⟨t,rfl⟩:=d;let⟨d,r,c,h⟩:=I.tuple f;let⟨j,d,f,h,i,k⟩:=CF g;let⟨w,g,h⟩:=r.get f;let f:=↑r;let i:=sj;let i:EP X a b Q w s:=⟨z,H,I,h,q⟩;exact subscriptTail_builtinR (x:=w) c.typeIs slot_tuple_getitem.lookup (getItem_tuple (j:=j) (Q:=λr h=>r=w/\EP X a b Q r h) c ∅ ∅ (by rw[iB,← f];exact d) (by simpa using g) ⟨1,i⟩) e
def G7:XY X mM:=by
 intro f g j s k H x y v u Q I a b h d;let⟨z,i,c,rfl,rfl,f,e,q⟩:=h;let⟨t,rfl⟩:=a;let⟨l,rfl⟩:=b;let⟨j,a,b,h,f,g⟩:=CF e;let e:↑z.cps.toList=↑z:=by simp[Str.length]
 rw[e]at a f g;let e:=sj
 exact tail_any (typeIs_str s z t) slot_str_getitem.lookup (getItem_str (c:=c) (by
  let e:decide (i < -(2^63:Int))=false:=decide_eq_false ∅;let f:decide (i>=2^63)=false:=decide_eq_false ∅
  rw[e,f,Bool.or_false]) (by rw[a];simpa using b) ⟨.str ⟨(List.toArray [c])⟩,H,I.tok _,⟨Y⟩,q⟩) d
def G8(c:WP)(n j:Nat)(u:Value):Obj.mapSeq (·.setIfInBounds j u) { cls:=.type "list",data:=.seq c.toArray n }={ cls:=.type "list",data:=.seq (c.set j u).toArray n }:=by
 simp[Obj.mapSeq]
theorem Inv.lst{f:List (Addr × Obj)}{g:St}{H:Hp}{s:Shared}{p:Addr}{d:List V}(I:Inv X f g H s)(h:H p=⇑(.lst d)) :
  ∃ (c:WP) (n:Nat),cE d c/\s.heap.get? p=some { cls:=.type "list",data:=.seq c.toArray n }/\↑d<=sizeLine:=by
 let⟨z,c,n,r,e⟩:=I.hok p _ h;exact⟨c,n,r,e,z⟩
theorem Inv.Vy{h:St}{H:Hp}{s:Shared}{p:Addr}{k d:List V}{i c:WP}{n g:Nat}{f:Obj->Obj}(I:Inv X l h H s)(m:H p=⇑(.lst k))
  (q:s.heap.get? p=some { cls:=.type "list",data:=.seq i.toArray n }) (j:f { cls:=.type "list",data:=.seq i.toArray n }={ cls:=.type "list",data:=.seq c.toArray g }) (r:cE d c) (u:↑d<=sizeLine) (t:Nat) :
  Inv X l h (aL H p (.lst d)) { s with heap:=s.heap.update p f,toks:=t }:=by
 let e:(s.heap.update p f).get? p=some { cls:=.type "list",data:=.seq c.toArray g }:=by
  rw[Heap.get?_update_self f q (by rw[j] <;> rfl),j]
 refine I.write (x:=p) (e:=p) (by rw[m];trivial) (.inl rfl) (λb v a o=>(Heap.get?_update_other _ _ (Ne.symm a)).trans o) ⟨_,e⟩ ?_;exact⟨u,c,g,r,e⟩
inductive Y3(o i v:V)(H:Hp)(Q:Hp->Prop):Prop
 | mk (p:Addr) (c:List V) (k:Int) (j:Nat) (_:o=↥p) (_:i=.int k) (_:H p=⇑(.lst c)) (_:Jw ↑c k=⇑j) (_:Q (aL H p (.lst (c.set j v))))
def ku:YF X Y3:=by
 intro i s l H o e v f g u Q I a b m h;let⟨p,n,k,j,rfl,rfl,d,c,q⟩:=h;cases a;let⟨t,rfl⟩:=b;let⟨e,w,r,b,x⟩:=I.lst d;let⟨a,h,f,g⟩:=Jx c;let c:=↑r;let h:=sj;let h:Inv X i l (aL H p (.lst (n.set j v))) { s with heap:=s.heap.update p (Obj.mapSeq (·.setIfInBounds j u)) } := I.Vy d b (G8 e w j u) (r.set m j) (by rw[List.length_set];exact x) s.toks;by_cases i:0<=k
 ·let d:k.toNat=j:=by
   rw[seqIndex_of i g]at a;exact pQ a
  exact PySem.W.ki_setAt b i ∅ (by rw[iB,← c];exact g) (by rw[d];exact⟨_,h,q⟩)
 ·let d:(k+(e.toArray.size:Int)).toNat=j:=by
   rw[seqIndex_neg ∅ f]at a;rw[iB,← c];exact pQ a
  exact PySem.W.ki_setBack b ∅ (by rw[iB,← c];exact f) ∅ (by rw[d];exact⟨_,h,q⟩)
def tP(lo c:Option Int)(n:Nat):(sliceBounds lo c none n).1=((_HT.gH n 0 lo:Nat):Int)/\(sliceBounds lo c none n).2.1=((_HT.gH n n c:Nat):Int)/\(sliceBounds lo c none n).2.2=1:=by
 refine⟨?_,?_,1⟩
 ·cases lo with
  | none=>simp[sliceBounds,_HT.gH]
  | some i =>
   simp only[sliceBounds,_HT.gH,Option.getD_none,show (1:Int) > 0 by decide,if_true];by_cases h:i<0
   ·simp only[h,if_true] <;> lia
   ·simp only[h,if_false] <;> lia
 ·cases c with
  | none=>simp[sliceBounds,_HT.gH]
  | some i =>
   simp only[sliceBounds,_HT.gH,Option.getD_none,show (1:Int) > 0 by decide,if_true];by_cases h:i<0
   ·simp only[h,if_true] <;> lia
   ·simp only[h,if_false] <;> lia
def Az(c:WP)(lo d:Option Int):slicePick c.toArray lo d none=((c.drop (_HT.gH ↑c 0 lo)).take (_HT.gH ↑c ↑c d-_HT.gH ↑c 0 lo)).toArray:=by
 let⟨a,b,e⟩:=tP lo d c.toArray.size;unfold slicePick;rw[a,b,e]
 simp only[sliceRange_one,pick_run,iB] <;> rfl
inductive Y4(K:Frag)(x:V)(lo hi:Option Int)(H:Hp)(Q:VK):Prop
 | mk (a:Addr) (c:List V) (_:x=↥a) (_:bL K H a c) (_:∀ p,H p=none->Q ↥p (aL H p (.lst (ir c lo hi)))):Y4 K x lo hi H Q
def jy:eg X (Y4 X.K):=by
 intro k s l H x v m n lo d o Q I e f g h i;let⟨a,c,rfl,j,q⟩:=i;cases e;let⟨k,r,e,i⟩:=I.list j;let j:=↑r;exists "list",_,slot_list_getitem.lookup,e.isList.typeIs
 refine wpAny_getItem_list_slice e.isList f g h .none (by simp) ?_ (by rw[iB] <;> lia)
 rw[Az,← j];refine⟨↥s.heap.objs.size,_,I.laid (t':=s.toks) (o:=.lst (ir c lo d)) (λb e q=>Heap.get?_push_of_some _ q) (fH _) ?_,1,q _ (I.hok.fresh (fH _))⟩;exact⟨Nat.le_trans (wz c lo d) i,_,0,(r.drop (_HT.gH ↑c 0 lo)).take (_HT.gH ↑c ↑c d-_HT.gH ↑c 0 lo),Heap.get?_push_size _ rfl⟩
def tQ:V->Bool
 | .gc=>true
 | .bl _=>true
 | .int _=>true
 | .str _=>true
 | _=>false
def Ua:V->V->Bool
 | .gc,.gc=>true
 | .bl a,.bl b=>a == b
 | .bl a,.int b=>(if a then 1 else 0) == b
 | .int a,.bl b=>a == (if b then 1 else 0)
 | .int a,.int b=>a == b
 | .str a,.str b=>a == b
 | _,_=>false
def Vz{A:Around}{s:Shared}{y x:V}{u v:Value}(f:RelV y u)(c:RelV x v)(h:tQ y=true)(g:tQ x=true):SeqAt.EqAt A s u v (Ua y x):=by
 cases y with
 | gc =>
  cases f
  cases x with
  | gc=>cases c;exact SeqAt.EqAt.same _
  | bl b=>cases c;exact SeqAt.EqAt.none_bool b
  | int b=>let⟨t,rfl⟩:=c;exact SeqAt.EqAt.none_int b t
  | str b=>let⟨t,rfl⟩:=c;exact SeqAt.EqAt.none_str b t
  | _=>exact absurd (show false=true from g) lT
 | bl a =>
  cases f
  cases x with
  | gc=>cases c;exact SeqAt.EqAt.bool_none a
  | bl b=>cases c;exact SeqAt.EqAt.bool_bool a b
  | int b=>let⟨t,rfl⟩:=c;exact SeqAt.EqAt.bool_int a b t
  | str b=>let⟨t,rfl⟩:=c;exact SeqAt.EqAt.bool_str a b t
  | _=>exact absurd (show false=true from g) lT
 | int a =>
  let⟨d,rfl⟩:=f
  cases x with
  | gc=>cases c;exact SeqAt.EqAt.int_none a d
  | bl b=>cases c;exact SeqAt.EqAt.int_bool a d b
  | int b=>let⟨t,rfl⟩:=c;exact SeqAt.EqAt.int_int a d b t
  | str b=>let⟨t,rfl⟩:=c;exact SeqAt.EqAt.int_str a d b t
  | _=>exact absurd (show false=true from g) lT
 | str a =>
  let⟨d,rfl⟩:=f
  cases x with
  | gc=>cases c;exact SeqAt.EqAt.str_none a d
  | bl b=>cases c;exact SeqAt.EqAt.str_bool a d b
  | int b=>let⟨t,rfl⟩:=c;exact SeqAt.EqAt.str_int a d b t
  | str b=>let⟨t,rfl⟩:=c;exact SeqAt.EqAt.str_str a d b t
  | _=>exact absurd (show false=true from g) lT
 | _=>exact absurd (show false=true from h) lT
def G9(x:V)(u:Value):Bool:=match u with
 | .none=>Ua .gc x
 | .bool b=>Ua (.bl b) x
 | .int i _=>Ua (.int i) x
 | .str z _=>Ua (.str z) x
 | _=>false
def Ni{x y:V}{u:Value}(r:RelV y u)(f:tQ y=true):G9 x u=Ua y x:=by
 cases y with
 | gc=>cases r;rfl
 | bl b=>cases r;rfl
 | int i=>let⟨t,rfl⟩:=r;rfl
 | str z=>let⟨t,rfl⟩:=r;rfl
 | _=>exact absurd (show false=true from f) lT
theorem tR{x:V}:∀ {c:List V} {d:WP},cE c d->c.all tQ=true->d.any (G9 x)=c.any λy=>Ua y x
 | _,_,.nil,_=>rfl
 | y::c,u::d,.cons r t,f=>by
  rw[List.all_cons,Bool.and_eq_true]at f;rw[List.any_cons,List.any_cons,Ni r f.1,tR t f.2]
theorem pY{A:Around}{s:Shared}{x:V}{v:Value}(g:RelV x v)(h:tQ x=true):∀ {c:List V} {d:WP},cE c d->c.all tQ=true->∀ u∈d,SeqAt.EqAt A s u v (G9 x u)
 | _,_,.nil,_=>λu a=>by cases a
 | y::c,u::d,.cons r t,f=>λb a=>by
  rw[List.all_cons,Bool.and_eq_true]at f;rcases List.mem_cons.mp a with rfl|a
  ·rw[Ni r f.1];exact Vz r g f.1 h
  ·exact pY g h t f.2 b a
def eh(x:V)(c:List V):Bool:=c.any λy=>Ua y x
inductive VA(K:Frag)(xs:List V)(H:Hp)(Q:VK):Prop
 | mk (p:Addr) (c:List V) (_:xs=[↥p]) (_:bL K H p c\/dO K H p c) (_:Q (.int ↑c) H):VA K xs H Q
inductive Y5(K:Frag)(xs:List V)(H:Hp)(Q:VK):Prop
 | mk (p:Addr) (c:List V) (_:xs=[↥p]) (_:bL K H p c\/dO K H p c) (_:∀ l,H l=none->Q ↥l (aL H l (.lst c)))
def eW(K:Frag)(c:Bool):R2:=λx y H Q=>∃ p a,y=↥p/\(bL K H p a\/dO K H p a)/\tQ x=true/\a.all tQ=true/\Q (.bl (if c then !eh x a else eh x a)) H
def vh:rm X (compareOp .In) (eW X.K false):=by
 intro d s e H x y v u Q I f b h;let⟨p,i,rfl,a,g,c,q⟩:=h;cases b;rcases a with a|a
 ·let⟨b,r,d,h⟩:=I.list a;refine SeqAt.in_listAt (G9 x) d.isList (λw e=>pY f g r c w (by simpa using e)) ⟨.bl _,H,I,1,?_⟩;rw[show b.toArray.any (G9 x)=b.any (G9 x) by simp,tR r c];exact q
 ·let⟨b,r,d,h⟩:=I.tuple a;refine SeqAt.in_tupleAt (G9 x) d (λw e=>pY f g r c w (by simpa using e)) ⟨.bl _,H,I,1,?_⟩;rw[show b.toArray.any (G9 x)=b.any (G9 x) by simp,tR r c];exact q
def tS:rm X (compareOp .NotIn) (eW X.K true):=by
 intro d s e H x y v u Q I f b h;let⟨p,i,rfl,a,g,c,q⟩:=h;cases b;rcases a with a|a
 ·let⟨b,r,d,h⟩:=I.list a;refine SeqAt.notIn_listAt (G9 x) d.isList (λw e=>pY f g r c w (by simpa using e)) ⟨.bl _,H,I,1,?_⟩;rw[show b.toArray.any (G9 x)=b.any (G9 x) by simp,tR r c];exact q
 ·let⟨b,r,d,h⟩:=I.tuple a;refine SeqAt.notIn_tupleAt (G9 x) d (λw e=>pY f g r c w (by simpa using e)) ⟨.bl _,H,I,1,?_⟩;rw[show b.toArray.any (G9 x)=b.any (G9 x) by simp,tR r c];exact q
def CG:jQ X (.builtin "len") (VA X.K):=by
 intro c s d H f g Q I r h;let⟨p,e,rfl,a,q⟩:=h;let⟨u,rfl,b⟩:=vals1 r;cases b;let b:=sj;rcases a with a|a
 ·let⟨f,b,c,g⟩:=I.list a;let d:=↑b
  exact Calls.call_len_list c.isList (by simp only[iB] <;> lia) ⟨.int ↑e,H,I.tok _,⟨s.toks+1,by rw[iB,d]⟩,q⟩
 ·let⟨f,b,c,g⟩:=I.tuple a;let d:=↑b
  exact len_tuple c (by simp only[iB] <;> lia) ⟨.int ↑e,H,I.tok _,⟨s.toks+1,by rw[iB,d]⟩,q⟩
def ic:jQ X (.builtin "len") (λc H Q=>∃ z,c=[.str z]/\↑z<=sizeLine/\Q (.int ↑z) H):=by
 intro a s b H c d Q I r h;let⟨z,rfl,a,q⟩:=h;let⟨u,rfl,t,rfl⟩:=vals1 r;let a:=sj;exact len_str ∅ ⟨.int ↑z,H,I.tok _,⟨Y⟩,q⟩
def ie:jQ X (.type "list") (Y5 X.K):=by
 intro q s t H z A Q I r u;let⟨p,i,rfl,g,v⟩:=u;let⟨B,rfl,w⟩:=vals1 r;cases w
 let n:∀ (c:WP),cE i c->↑i<=sizeLine->∀ (a:Heap) (d:Nat),(∀ b f,s.heap.get? b=⇑f->a.get? b=⇑f)->
   a.get? s.heap.objs.size=some { cls:=.type "list",dict:=none,data:=.seq c.toArray d,slots:=#[] }->EP X q t Q ↥s.heap.objs.size { s with heap:=a }:=λc f h a d kp e =>
  ⟨↥s.heap.objs.size,_,I.laid (t':=s.toks) kp (fH _) (show gA X.prog X.w _ a _ (.lst i) from ⟨h,c,d,f,e⟩),1,v _ (I.hok.fresh (fH _))⟩
 rcases g with g|g
 ·let⟨c,f,j,h⟩:=I.list g;let x:=↑f;let⟨o,k,l,y,m⟩:=j.isList
  exact call_list_seq p (.inl rfl) k l m (λa d kp e=>n c f h a d kp e) (by simp only[iB] <;> lia)
 ·let⟨c,f,j,h⟩:=I.tuple g;let x:=↑f;let⟨o,k,l,y,m⟩:=j
  exact call_list_seq p (.inr rfl) k l m (λa d kp e=>n c f h a d kp e) (by simp only[iB] <;> lia)
def e9(K:Frag)(T:String)(x:V)(H:Hp):Prop:=match x with
 | .str _=>T="str"
 | .int _=>T="int"
 | .ref p=>(T="list"/\∃ a,bL K H p a)\/(T="tuple"/\∃ o,K.lookup p=⇑o/\o.cls=.type "tuple"/\o.dict=none)\/
   (T="dict"/\((∃ a,H p=⇑(.dK a))\/∃ a,H p=⇑(.dT a)))\/(T="set"/\∃ S n,H p=⇑(.set S n))
 | _=>False
theorem Nj{i:St}{H:Hp}{s:Shared}{T:String}{x:V}{v:Value}(I:Inv X l i H s)(r:RelV x v)(d:e9 X.K T x H) :
  s.TypeIs v T/\∀ a,v=↥a->∃ h,s.heap.get? a=⇑h/\h.dict=none:=by
 cases x with
 | str z =>
  let⟨t,rfl⟩:=r;cases (show T="str" from d);exact⟨typeIs_str s z t,λ_ e=>nomatch e⟩
 | int b =>
  let⟨t,rfl⟩:=r;cases (show T="int" from d);exact⟨typeIs_int s b t,λ_ e=>nomatch e⟩
 | ref p =>
  cases r;rcases d with ⟨rfl,m,j⟩|⟨rfl,o,b,k,f⟩|⟨rfl,b⟩|⟨rfl,S,n,b⟩
  ·let⟨g,_,c,_⟩:=I.list j;refine⟨c.isList.typeIs,λa e=>?_⟩;cases e;let⟨o,n,e,g,f,_⟩:=c;exact⟨o,e,f⟩
  ·refine⟨⟨o,I.we p o b,k⟩,λa e=>?_⟩;cases e;exact⟨o,I.we _ o b,f⟩
  ·let z:∃ o,s.heap.get? p=⇑o/\o.ExactDict:=by
    rcases b with ⟨f,b⟩|⟨f,b⟩
    ·let⟨_,_,_,_,o,_,_,e,c,_⟩:=I.hok p _ b;exact⟨o,e,c⟩
    ·let⟨_,_,_,_,o,_,_,e,c,_⟩:=I.hok p _ b;exact⟨o,e,c⟩
   let⟨o,e,c⟩:=z;refine⟨⟨o,e,c.1⟩,λa g=>?_⟩;cases g;exact⟨o,e,c.2.1⟩
  ·let⟨o,_,_,_,e,c,_⟩:=I.hok p _ b;refine⟨⟨o,e,c.1⟩,λa g=>?_⟩;cases g;exact⟨o,e,c.2.1⟩
 | _=>exact False.elim d
def mN(K:Frag)(T:String)(r:V->List V->Hp->VK->Prop)(to:TE):TE:=fun a H Q=>to a H λx a=>e9 K T x a/\r x [] a Q
def mV(K:Frag)(T:String)(r:V->List V->Hp->VK->Prop)(to:TE)(t:TA):TE:=fun a H Q=>to a H λx b=>e9 K T x b/\t a b λa b=>r x a b Q
variable {o e:Expr} {es:List Expr} {to:TE} {t:TA} {name:Str} {jX nK:Pos} {T id:String} {r:V->List V->Hp->VK->Prop}
theorem Nk(f:PlainAttrs T)(g:Slot T name id)(h:typeOf (.builtin id)=pure (.type "method_descriptor"))(i:gd X id r)(j:PE X o to)
  (k:attributeBase o name X.env (eval o X.env)=eval o X.env:=by rfl) (l:(jX.endLine == nK.line)=true:=by rfl):PE X (.Call (.Attribute o name jX) [] [] nK) (mN X.K T r to):=by
 intro a s b H Q I e;refine wpAny_Call_method0_late k l (dN (j a s b H _ I e) λv m e=>?_);let⟨x,n,c,d,p,q⟩:=e;let⟨e,t⟩:=Nj c d p;exact⟨T,id,f,g,h,e,t,Calls.callWith_builtin rfl (PySem.evalArgs_none (i a m b n x [] v [] Q c d .nil q))⟩
theorem dX(g:PlainAttrs T)(h:Slot T name id)(i:typeOf (.builtin id)=pure (.type "method_descriptor"))(j:gd X id r)(k:PE X o to)(l:PA X (e::es) t)
  (m:attributeBase o name X.env (eval o X.env)=eval o X.env:=by rfl)
  (n:((backTo nK (starEach (e::es) X.env)).all (λx=>!x.1)&&(backToKw nK (keywordEach [] X.env)).all (λx=>x.1.isSome)
   && decide (↑(e::es)+↑([]:List Keyword)+(if ([]:List Keyword).isEmpty then 0 else 1)<30))=true:=by rfl)
  (p:(jX.endLine == nK.line)=true:=by rfl) (q:starEach (e::es) X.env=(false,eval e X.env)::starEach es X.env:=by rfl) (u:(backTo nK (starEach es X.env)).any (·.1)=false:=by rfl) :
  PE X (.Call (.Attribute o name jX) (e::es) [] nK) (mV X.K T r to t):=by
 intro a s b H Q I c;refine wpAny_Call_method_late m n p rfl (dN (k a s b H _ I c) λv w y=>?_);let⟨x,z,c,d,A,B⟩:=y;let⟨y,C⟩:=Nj c d A;exists T,id,g,h,i,y,C;let f:=l nK a w b z _ c B;rw[q]at f ⊢
 refine Calls.callWith_builtin (by show (false || (backTo nK (starEach es X.env)).any (·.1))=false;rw[u] <;> rfl) (Calls.evalArgs_plain ?_)
 exact dN f λc f ⟨w,y,z,A,B⟩=>j a f b y x w v c Q z d A B
end
end _L2
namespace _L2
open Spec Rows
def XZ(a:Cx)(f:String)(r:V->List V->Hp->VK->Prop):Prop :=
 ∀ (b:List (Addr × Obj)) (s:Shared) (c:St) (H:Hp) (x:V) (d:List V) (v:Value) (e:WP) (Q:VK),Inv a b c H s->RelV x v->cE d e->r x d H Q->
  wpAny (model a.prog a.w) a.A (call (.builtin f) (v::e)) (EP a b c Q) a.xe s
def cE.one{x:V}{a:WP}(h:cE [x] a):∃ u,a=[u]/\RelV x u:=by
 cases h with
 | cons r t=>cases t;exact⟨Y,r⟩
def cE.two{x y:V}{a:WP}(h:cE [x,y] a):∃ u v,a=[u,v]/\RelV x u/\RelV y v:=by
 cases h with
 | cons r t =>
  let⟨_,rfl,q⟩:=cE.one t;exact⟨E,1,r,q⟩
theorem cE.zero:∀ {a:WP},cE [] a->a=[]
 | _,.nil=>rfl
def cE.dropLast{a:List V}{b:WP}(h:cE a b):cE a.dropLast b.dropLast:=by
 induction h with
 | nil=>exact .nil
 | cons r t c =>
  cases t with
  | nil=>exact .nil
  | cons q d=>exact .cons r c
theorem cE.eraseIdx:∀ {a:List V} {b:WP} (i:Nat),cE a b->cE (a.eraseIdx i) (b.eraseIdx i)
 | _,_,_,.nil=>.nil
 | _,_,0,.cons _ t=>t
 | _,_,i+1,.cons r t=>.cons r (cE.eraseIdx i t)
theorem cE.rep{a:List V}{b:WP}(h:cE a b):∀ k:Nat,cE (List.replicate k a).flatten (List.replicate k b).flatten
 | 0=>.nil
 | k+1=>by
  rw[List.replicate_succ,List.replicate_succ,List.flatten_cons,List.flatten_cons];exact cE.append h (cE.rep h k)
def Hf{c:Type}(l:List c):l.eraseIdx (↑l-1)=l.dropLast:=by
 induction l with
 | nil=>rfl
 | cons a r d =>
  cases r with
  | nil=>rfl
  | cons b r =>
   let e:↑(a::b::r)-1=(↑(b::r)-1)+1:=by
    let f:↑(a::b::r)=↑r+2:=rfl;let f:↑(b::r)=↑r+1:=rfl;lia
   rw[e,List.eraseIdx_cons_succ,d]
   all_goals rfl
theorem Bo{a:Type}:∀ (l:List a) (i:Nat),↑(l.eraseIdx i)<=↑l
 | [],_=>fH _
 | _::_,0=>Nat.le_succ _
 | _::r,i+1=>Nat.succ_le_succ (Bo r i)
theorem foldl_rep(a:WP):∀ (k:Nat) (b:WP),
  List.foldl (λc d=>c++d) b.toArray (List.replicate k a.toArray)=(b++(List.replicate k a).flatten).toArray
 | 0,b=>by simp
 | k+1,b=>by
  let e:b.toArray++a.toArray=(b++a).toArray:=by simp
  let f:(b++a)++(List.replicate k a).flatten=b++(List.replicate (k+1) a).flatten:=by
   rw[List.replicate_succ,List.flatten_cons,ko]
  rw[← f,← foldl_rep a k (b++a),← e,List.replicate_succ,jV]
section
variable {X:Cx} {au:List (Addr × Obj)} {σ:St} {H:Hp} {s:Shared} {l b:Addr} {xs ys zs:List V}
theorem Inv.Nn{c a:WP}{n:Nat}{f:Array Value->Xt}{d:Nat}(I:Inv X au σ H s)(e:H l=⇑(.lst xs))
  (g:s.heap.get? l=some { cls:=.type "list",data:=.seq c.toArray n }) (h:f c.toArray=a.toArray) (i:cE ys a) (j:↑ys<=sizeLine) :
  Inv X au σ (aL H l (.lst ys)) { s with heap:=s.heap.update l (Obj.mapSeq f),toks:=d }:=by
 let q:=PySem.IsL.update g f;rw[h]at q;refine I.write (x:=l) (e:=l) (by rw[e];exact trivial) (.inl rfl) (λm u b k=>(Heap.get?_update_other s.heap (Obj.mapSeq f) (Ne.symm b)).trans k) ⟨_,q⟩ ?_;exact⟨j,a,_,i,q⟩
theorem Inv.QW{a:WP}{c:Nat}(I:Inv X au σ H s)(d:cE ys a)(e:↑ys<=sizeLine) :
  Inv X au σ (aL H s.heap.objs.size (.lst ys)) { s with heap:=s.heap.push { cls:=.type "list",data:=.seq a.toArray },toks:=c } :=
 I.laid (λ_ _ q=>Heap.get?_push_of_some _ q) (fH _) ⟨e,a,0,d,Heap.get?_push_size _ rfl⟩
theorem Inv.fresh(I:Inv X au σ H s):H s.heap.objs.size=none:=I.hok.fresh (fH _)
def Inv.yp(I:Inv X au σ H s)(c:H l=⇑(.lst xs)):↑xs<=sizeLine/\∃ (a:WP) (n:Nat),cE xs a/\↑xs=↑a/\s.heap.get? l=some { cls:=.type "list",data:=.seq a.toArray n }:=by
 let⟨z,a,n,r,e⟩:=I.hok l _ c;exact⟨z,a,n,r,↑r,e⟩
def yq{n:Nat}(h:n<=sizeLine):Builtin.List.listTooLong n=false:=by
 unfold Builtin.List.listTooLong;exact decide_eq_false ∅
end
section
variable {X:Cx}
inductive QX(x:V)(vs:List V)(H:Hp)(Q:VK):Prop
 | mk (l:Addr) (a:List V) (y:V) (_:x=↥l) (_:vs=[y]) (_:H l=⇑(.lst a)) (_:↑a<sizeLine) (_:Q .gc (aL H l (.lst (a++[y]))))
def bT:XZ X "list.append" QX:=by
 intro d s e H x f v g Q I b c h;let⟨l,i,y,rfl,rfl,a,d,q⟩:=h;cases b;let⟨u,rfl,d⟩:=c.one;let⟨z,b,n,r,c,e⟩:=I.yp a;refine call_meets F.slot_list_append ⟨_,e,1⟩ F.entry_list_append (F.args_list_append_2 _ _) (PySem.list_append l b.toArray n u (by rw[iB];lia)) ⟨e,?_⟩;refine⟨.gc,_,I.Nn (a:=b++[u]) a e (by simp) (r.append (.cons d .nil)) ?_,1,q⟩;rw[dh,nC];lia
inductive QY(x:V)(vs:List V)(H:Hp)(Q:VK):Prop
 | mk (l b:Addr) (a c:List V) (_:x=↥l) (_:vs=[↥b]) (_:H l=⇑(.lst a)) (_:H b=⇑(.lst c)) (_:↑a+↑c<=sizeLine) (_:Q .gc (aL H l (.lst (a++c))))
def jY:XZ X "list.extend" QY:=by
 intro g s i H x j v k Q I a b h;let⟨l,d,m,n,rfl,rfl,c,f,g,q⟩:=h;cases a;let⟨u,rfl,e⟩:=b.one;cases e;let⟨z,a,n,r,b,e⟩:=I.yp c;let⟨j,b,g,h,k,i⟩:=I.yp f;let f:a.toArray.size+b.toArray.size<=sizeLine:=by rw[iB,iB];lia
 let j:¬ (!a.toArray.isEmpty&&Builtin.List.listTooLong (a.toArray.size+b.toArray.size))=true:=by
  rw[yq f,Bool.and_false];exact lT
 refine call_meets F.slot_list_extend ⟨_,e,1⟩ F.entry_list_extend (F.args_list_extend_2 _ _) (AutoSeq1.list_extend_list_list_0 l a.toArray n d b.toArray g j (by rw[iB];lia) ∅) ⟨e,i,?_⟩;refine⟨.gc,_,I.Nn (a:=a++b) c e (by simp) (r.append h) ?_,1,q⟩;rw[dh];lia
def mZ:V->List V->Hp->VK->Prop:=λx b H Q=>∃ l a y,x=↥l/\b=[]/\H l=⇑(.lst a)/\a[↑a-1]?=⇑y/\Q y (aL H l (.lst a.dropLast))
def Np:XZ X "list.pop" mZ:=by
 intro f s g H x i v j Q I a c h;let⟨l,k,y,rfl,rfl,b,d,q⟩:=h;cases a;let e:=c.zero;subst e;let⟨z,a,n,r,c,e⟩:=I.yp b;let⟨u,f,g⟩:=r.get d
 let d:a.toArray[a.toArray.size-1]?=⇑u:=by
  show a.toArray[↑a-1]?=⇑u;rw[← Array.getElem?_toList,← c];exact f
 refine call_meets F.slot_list_pop ⟨_,e,1⟩ F.entry_list_pop (F.args_list_pop_1 _) (MeetsSeq.list_pop_last l a.toArray n u d (by rw[iB];lia)) ⟨e,?_⟩;refine⟨y,_,I.Nn (a:=a.dropLast) b e ?_ r.dropLast ?_,g,q⟩
 ·show a.toArray.eraseIdxIfInBounds (a.toArray.size-1)=a.dropLast.toArray;rw[iB,List.eraseIdxIfInBounds_toArray,Hf]
 ·rw[List.length_dropLast];lia
def VC:V->List V->Hp->VK->Prop:=λx b H Q=>∃ l a i k y,x=↥l/\b=[.int i]/\H l=⇑(.lst a)/\-(2^63)<=i/\i<2^63/\seqIndex? i ↑a=⇑k/\a[k]?=⇑y/\Q y (aL H l (.lst (a.eraseIdx k)))
def Nq:XZ X "list.pop" VC:=by
 intro n s o H x p v r Q I a c h;let⟨l,d,i,k,y,rfl,rfl,b,f,g,j,m,q⟩:=h;cases a;let⟨u,rfl,e⟩:=c.one;let⟨t,rfl⟩:=e;let⟨z,a,n,r,c,e⟩:=I.yp b;let⟨w,h,o⟩:=r.get m;refine call_meets F.slot_list_pop ⟨_,e,1⟩ F.entry_list_pop (F.args_list_pop_2 _ _) (MeetsSeq.list_pop_at l a.toArray n i t k w (fitsIndex_both f g) (by rw[iB,← c];exact j) (by rw[← Array.getElem?_toList];exact h) (by rw[iB];lia)) ⟨e,?_⟩;refine⟨y,_,I.Nn (a:=a.eraseIdx k) b e ?_ (r.eraseIdx k) ?_,o,q⟩
 ·show a.toArray.eraseIdxIfInBounds k=(a.eraseIdx k).toArray;rw[List.eraseIdxIfInBounds_toArray]
 ·have:=Bo d k;lia
inductive Y6(x y:V)(H:Hp)(Q:VK):Prop
 | mk (l b:Addr) (a c:List V) (_:x=↥l) (_:y=↥b) (_:H l=⇑(.lst a)) (_:H b=⇑(.lst c)) (_:↑a+↑c<=sizeLine) (_:∀ p,H p=none->Q ↥p (aL H p (.lst (a++c))))
def ja:rm X (binaryOp .Add) Y6:=by
 intro e s f H x y v u Q I a b h;let⟨l,g,i,j,rfl,rfl,c,d,e,q⟩:=h;cases a;cases b;let⟨z,a,n,r,b,e⟩:=I.yp c;let⟨g,b,h,c,i,f⟩:=I.yp d;refine PySem.P.add_list e f ?_ (by rw[iB,iB];lia);let d:a.toArray++b.toArray=(a++b).toArray:=by simp
 rw[d];exact⟨↥_,_,I.QW (c:=s.toks) (r.append c) (by rw[dh];lia),1,q _ I.fresh⟩
def Y7:R2:=λx y H Q=>∃ l k a,x=↥l/\y=.int k/\H l=⇑(.lst a)/\-(2^63)<=k/\k<2^63/\↑a*k.toNat<=sizeLine/\
 ∀ p,H p=none->Q ↥p (aL H p (.lst (List.replicate k.toNat a).flatten))
def QZ{b:Type}(a:List b)(k:Nat):(List.replicate k a).flatten.length=k*↑a:=by
 induction k with
 | zero=>simp
 | succ k c=>rw[List.replicate_succ,List.flatten_cons,dh,c,Nat.succ_mul,Nat.add_comm]
def Nr:rm X (binaryOp .Mult) Y7:=by
 intro m s w H x y z A Q I c d h;let⟨l,k,B,rfl,rfl,g,i,j,f,q⟩:=h;cases c;let⟨t,rfl⟩:=d;let⟨z,b,n,r,c,e⟩:=I.yp g;let d:b.toArray.size*k.toNat<=sizeLine:=by rw[iB,← c];exact f
 let o:¬ b.toArray.size*k.toNat > (2^63-1) / 8:=by
  have:(sizeLine:Nat)<=(2^63-1) / 8:=by decide
  lia
 let p:¬ (!Builtin.List.listFitsIndex k)=true:=by
  rw[fitsIndex_both i j];exact lT
 let u:¬ Builtin.List.listTooLong (b.toArray.size*k.toNat)=true:=by
  rw[yq d];exact lT
 let v:List.foldl (λc d=>c++d) #[] (List.replicate (if b.toArray.isEmpty=true then 0 else k.toNat) b.toArray)=(List.replicate k.toNat b).flatten.toArray:=by
  let g:∀ m:Nat,List.foldl (λc d=>c++d) #[] (List.replicate m b.toArray)=(List.replicate m b).flatten.toArray:=λm=>by
   have:=foldl_rep b m [];rw[List.nil_append]at this;exact this
  rw[g]
  cases b with
  | nil=>simp
  | cons a c=>rw[if_neg (by simp)]
 refine wpAny_binaryOp_repeat_ref (T:="list") (U:="int") (by decide) ⟨_,e,1⟩ (λc=>typeIs_int c k t) noFill_list_mul F.fills_int_mul F.slot_int_rmul repeat_list F.slot_int_index.lookup (call_meets F.slot_int_rmul (typeIs_int s k t) F.entry_int_rmul (F.args_int_rmul_2 _ _) (int___rmul___int_list k t l b.toArray n) ⟨e,1,⟨_,e,1⟩,call_meets F.slot_list_mul ⟨_,e,1⟩ F.entry_list_mul (F.args_list_mul_2 _ _) (AutoListH.list___mul___list_int_3 l b.toArray n k t p o u) ⟨e,?_⟩⟩);rw[v];exact⟨↥_,_,I.QW (c:=s.toks) (r.rep k.toNat) (by rw[QZ,Nat.mul_comm];exact f),1,q _ I.fresh⟩
end
end _L2
namespace _ge
open PySem.W Calls Rows
def xu{P:Params}{h:Heap}:∀ (c:Wp) (d:WP),WellAll P h d (c.map WData.int)->IntsAre d c:=by
 intro c
 induction c with
 | nil =>
  intro d w;rw[List.map_nil]at w;cases w;exact .nil
 | cons n c e =>
  intro d w;rw[jv]at w
  cases w with
  | cons a b =>
   cases a;exact .cons _ _ (e _ b)
theorem KR{l:OpenLaw}{n:Nat}(j:l.most=⇑n){P:Params}{h:Heap}{args:List WData}{d:WP}
  (e:l.row.toRowW.claim.pre args=true) (k:WellAll P h d args) :
  ∃ f g a,d=[Value.ref f]/\args=[WData.list (a.map WData.int)]/\h.get? f=some { cls:=.type "list",data:=.seq g.toArray }/\IntsAre g a/\↑a<=n:=by
 let b:WShape.hasAll [] args [.list .int]=true:=(pre_splitW e).1;let i:l.pre.holds [] { args:=args }=true:=(pre_splitW e).2;let⟨s,t,rfl,m,o⟩:=hasAllW_cons b;obtain rfl:=hasAllW_nil o;let⟨u,rfl,p⟩:=hasW_list m;let⟨a,rfl⟩:=items_int p
 let q:↑a<=n:=by
  unfold OpenLaw.pre at i
  let b:(WTm.not (.lt (.lit (.int (n:Int))) (.len (.arg 0)))).holds [] { args:=[.list (a.map .int)] }=true:=by
   let b:=(holds_andW i).1;rw[j]at b;exact b
  let c:=condW_of b (w_not (w_lt w_lit (w_len_list (w_arg rfl))));rw[cC]at c;refine Nat.le_of_not_lt λb=>?_;have b:(n:Int)<((↑a:Nat):Int):=by lia
  first
   | (rw[decide_eq_true b]at c;exact absurd c (by decide))
   | (simp at c;lia)
 cases k with
 | cons c r =>
  cases r
  cases c with
  | list ho b=>exact⟨E,a,V,ho,xu a _ b,q⟩
theorem KS(l:OpenLaw)(args:List WData):l.row.toRowW.claim.post args (.bool true) args=true :=
 postW_of (r:=l.row.toRowW) (X:=(true == true))
  (show WShape.has [] (.bool true) .bool=true by first|rfl|decide|simp[WShape.has,WShape.arms,WShape.armsAll])
  (show (WTm.eq .res (.lit (.bool true))).value [] { args:=args,res:=⇑(.bool true),after:=args }=⇑(.bool (true == true)) from w_eq_bool (w_res rfl) w_lit) rfl
theorem En{l:OpenLaw}{p:Nat}{q:Program}{r:UV}{t:(Ya)->Heap->Prop}{u:World->Heap->Prop}{d:DefRec}
  (x:l.most=⇑p) (y:d.params.defaults=[])
  (z:∀ (w:World) (j a:Shared) (e k:Ya) (c:Addr) (o:Obj) (m f n:Value) (g:Addr) (b:WP) (h:Wp),
   Ground q r [] t w j e k a.heap->u w a.heap->
   a.heap.get? c=⇑o->o.data=.func (docDef d.name d.params d.body d.scope m f n)->a.heap.CodeRec f d.name->e d.name=⇑↥c->
   a.heap.get? g=some { cls:=.type "list",data:=.seq b.toArray }->IntsAre b h->↑h<=p->a.gens=#[]->
   codeAny (model l.prog w) callerA (.call ↥c ⟨[↥g],[]⟩) (λv i=>v=.ok (.ret (.bool true))/\OldK a.heap i.heap/\i.os=a.os/\AllBare i.gens) a) :
  WalkO q r t u l.row.toRowW d [] (λA b=>PySem.call A b):=by
 intro w j a e k G Y c o m f n B kV C D F s H I args M T J U W L X;obtain rfl:B=.none:=Dflts.none s y;obtain rfl:kV=.none:=Dflts.noKw s;let⟨g,b,h,rfl,rfl,s,B,M⟩:=KR x J L;refine enter_call (codeAny_mono (z w j a e k c o m f n g b h G Y C (fd_plain D) F H s B M I) λv i N=>?_);let⟨rfl,O,R,S⟩:=N;exact⟨.inl ⟨.bool true,.bool true,[],1,λ_=>rfl,.bool true,KS l _,λ_=>⟨List.Pairwise.nil,λ_ s=>(nomatch s)⟩⟩,O,R,S⟩
end _ge
namespace _L2
open Spec Rows
theorem Bq:∀ {a:WP} {ns:Wp},IntsAre a ns->cE (ns.map V.int) a
 | _,_,.nil=>.nil
 | _,_,.cons n t h=>.cons ⟨t,1⟩ (Bq h)
def VF(H:Hp):Prop:=∀ b,H b=none\/∃ o a,H b=⇑(.Jd o (.lst a))
theorem Nv{P:Program}{w:World}{K:Frag}{h v:Ya}{C:KL}{D:Nat}{y c:Addr}{G:FuncData}{x:Str}{I:Sp}{a:Shared}{g:WP}{i:Wp}
  (J:K.In a.heap) (L:a.heap.Ns mainGlobals h) (d:a.heap.Ns builtinsNs v) (ab:∀ x:Str,x≠"__name__"->v x=bootBuiltins x) (ae:a.heap.NoLimit) (hg:a.gens=#[])
  (n:a.heap.get? c=some { cls:=.type "list",data:=.seq g.toArray }) (M:IntsAre g i) (N:↑i<=sizeLine) (hr:jh D callerA)
  (ag:∀ A:Heap,K.In A->A.Ns mainGlobals h->bq P w K h A C D y G [x] I) (Za:∀ (s:Shared) (u:Value),BindsTo s G ⟨[u],[]⟩ [(x,u)])
  (KQ:∀ H:Hp,VF H->bL K H c (i.map V.int)->I [↥c] H (λB _=>B=.bl true) λ_ _ _=>False)
  (ai:∀ H e f,C [] H a (λ_ _ _=>False) e f->False) :
  codeAny (model P w) callerA (.call ↥y ⟨[↥c],[]⟩) (λr f=>r=.ok (.ret (.bool true))/\OldK a.heap f.heap/\f.os=a.os/\AllBare f.gens) a:=by
 let F:=Bq M;let ak:=↑M
 let O:∀ H:Hp,VF H->bL K H c (i.map V.int)->tK P w H a.heap->(∀ b,H b≠none->b=c)->(H c≠none->K.lookup c=none)->
   codeAny (model P w) callerA (.call ↥y ⟨[↥c],[]⟩) (λr f=>r=.ok (.ret (.bool true))/\OldK a.heap f.heap/\f.os=a.os/\AllBare f.gens) a:=by
  intro H R hS S T hK;let U:∀ {b:Addr} {o:Obj},a.heap.get? b=⇑o->H b=none->(Cu a.heap H).get? b=⇑o:=λe am=>MT e am
  let YV:∀ {b:Addr} {o:Obj} {j:Array DictEntry} {k:Nat},a.heap.get? b=⇑o->o.data=.dict j k->H b=none:=λ{b o j k} e p=>by
   cases q:H b with
   | none=>rfl
   | some u =>
    let l:b=c:=T b (by rw[q];simp);subst l;rw[n]at e;cases e;let t:Data.seq g.toArray _=Data.dict j k:=p;cases t
  let t:∀ {b:Addr} {m:Ya},a.heap.Ns b m->(Cu a.heap H).Ns b m:=λ{b m} ⟨o,j,k,e,p,r⟩=>⟨o,j,k,U e (YV e p),p,r⟩
  let W:K.In (Cu a.heap H):=λb o e=>U (J b o e) (by
   cases q:H b with
   | none=>rfl
   | some u =>
    let l:b=c:=T b (by rw[q];simp);subst l
    rw[hK (by rw[q];simp)]at e;cases e)
  let j:Mod K h (Cu a.heap H):=⟨W,t L,⟨v,t d,ab⟩,let ⟨k,p,T⟩:=ae;⟨k,t p,T⟩⟩;let e0:G4 P w K h (Cu a.heap H) callerA [] a H:=⟨1,j,λb o e=>QE e,Nat.le_of_eq (Kx _ _),trivial,λb d=>absurd (show b∈([]:WF) from d) (by simp),S,.of_eq hg⟩;refine codeAny_mono ((ag _ W (t L)).run callerA [] a H ⟨[↥c],[]⟩ [↥c] [↥c] _ _ hr e0 (Za a ↥c) (.cons rfl .nil) (KQ H R hS)) λr f l=>?_
  cases r with
  | error e=>exact (ai H e f l).elim
  | ok fl =>
   cases fl with
   | next=>exact False.elim l
   | brk=>exact False.elim l
   | cont=>exact False.elim l
   | ret u =>
    let⟨B,j,os,an,X,ap,r',q⟩:=l;let q':B=.bl true:=q;subst q';obtain rfl:u=Value.bool true:=r';refine⟨1,OldK.of_keep λb o e=>?_,os,an⟩
    cases q:H b with
    | none=>exact X.keep b o e q (by intro z;exact absurd (show b∈([]:WF) from z) (by simp)) (by simp)
    | some u =>
     rcases R b with z|⟨ob,j,z⟩
     ·rw[q]at z;cases z
     ·let j:=X.Ct b ob _ z;let⟨e1,_⟩:=S b _ z;let⟨e2,_⟩:=ap b _ j;rw[e]at e1;cases e1;exact e2
 cases k:K.lookup c with
 | some o =>
  let e:=J c o k;rw[n]at e;cases e;refine O (λ_=>none) (λ_=>.inl rfl) (.inr ⟨_,g.toArray,_,k,V,1,by rw[iB,ak];exact N,by simpa using F⟩) (λb u z=>by let j:(none:Option HO)=⇑u:=z;cases j) (λb z=>absurd rfl z) λz=>absurd rfl z
 | none =>
  refine O (λb=>if b=c then some (.Jd { cls:=.type "list",data:=.seq g.toArray } (.lst (i.map V.int))) else none) (λb=>?_) (.inl (.inr ⟨{ cls:=.type "list",data:=.seq g.toArray },if_pos rfl⟩)) (λb u z=>?_) (λb z=>?_) λ_=>k
  ·by_cases d:b=c
   ·exact .inr ⟨E,if_pos d⟩
   ·exact .inl (if_neg d)
  ·by_cases d:b=c
   ·let j:=(if_pos d).symm.trans z;cases j;subst d;exact⟨n,by rw[cC];exact N,g,_,F,n⟩
   ·let j:=(if_neg d).symm.trans z;cases j
  ·by_cases d:b=c
   ·exact d
   ·exact absurd (if_neg d) z
end _L2
namespace _L2
open Spec Rows
theorem Q3{l:PySem.W.OpenLaw}{n k:Nat}{v:Program}{y:UV}{z:(Ya)->Heap->Prop}{m:World->Heap->Prop}{e:DefRec}{K:Params->Frag}{o:World->KL}{p:World->Sp}{x:Str}
  (A:l.most=⇑n) (B:n<=sizeLine) (C:e.params.defaults=[]) (D:jh k callerA)
  (I:∀ (w:World) (h:Heap),m w h->(K w.params).In h)
  (J:∀ (w:World) (a:Ya) (b:Addr) (h:Heap),(K w.params).In h->h.Ns mainGlobals a->a e.name=⇑↥b->
   ∃ f:FuncData,(∀ (s:Shared) (u:Value),BindsTo s f ⟨[u],[]⟩ [(x,u)])/\
    ∀ g:Heap,(K w.params).In g->g.Ns mainGlobals a->bq l.prog w (K w.params) a g (o w) k b f [x] (p w))
  (L:∀ (w:World) (H:Hp) (c:Addr) (d:Wp),↑d<=n->VF H->bL (K w.params) H c (d.map V.int)->p w [↥c] H (λM _=>M=.bl true) λ_ _ _=>False)
  (N:∀ (w:World) (H:Hp) (s:Shared) (i:Value) (j:Shared),o w [] H s (λ_ _ _=>False) i j->False) :
  PySem.W.WalkO v y z m l.row.toRowW e [] (λO q=>PySem.call O q):=by
 refine _ge.En A C λw t F a W b X pm cd wm c q d G Y ho hd MW R S T r U=>?_;have t:=I w _ Y;let⟨f,W,X⟩:=J w a b _ t G.T.g R;exact Nv t G.T.g G.T.b G.T.builtins G.T.nolimit U S T (iC r B) D X W (λH t G=>L w H c d r t G) λH i j=>N w H F i j
end _L2
namespace _L2
open Spec Rows
def mX(s:Stmt):Arguments:=match s with
 | .FunctionDef _ a _ _ _ _ _ _ _ _=>a
 | _=>{ posonlyargs:=[],args:=[],vararg:=none,kwonlyargs:=[],kw_defaults:=[],kwarg:=none,defaults:=[] }
def jz(s:Stmt):List Stmt:=match s with
 | .FunctionDef _ _ b _ _ _ _ _ _ _=>b
 | _=>[]
def cB(s:Stmt):Scope:=match s with
 | .FunctionDef _ _ _ _ _ _ a _ _ _=>a
 | _=>{ kind:=.function,names:=[],isGenerator:=false,isCoroutine:=false }
abbrev cR:KL:=λ_ _ _ _ _ _=>False
abbrev E0:XK:=λ_ _ _=>False
theorem bR{a:Cx}:nh cR a E0:=λ_ _ _ _ _ _ _ h=>h.elim
structure Ny(K:Frag)(x fJ:Str)(st:Stmt)(f:Addr)(fd:FuncData):Prop where
 ex:∃ (oc:Value) (od:Option Addr) (kV wm pm:Value) (an:Option Addr) (dF ct:Value) (MG:Array (XB)),
  fd=fnOf x fJ (mX st) (jz st) (cB st) .none kV wm pm an dF ct/\K.lookup f=some ⟨oc,od,.func fd,MG⟩/\codeIn K dF fJ=true
 kp:keepIn K ↥f=true
section
variable {P:Program} {w:World} {K:Frag} {mg:Ya} {zt:Heap}
theorem Ny.ok{x d:Str}{b:Stmt}{f:Addr}{N e:UV}{k:Nat}{g:Sp}(i:Ny K x d b f j)(l:qD N e (cB b))(m:∀ a H Q E,g a H Q E->↑a=↑e)
  (n:∀ (c:Value) (A:Around) (h:List Env) (s:Shared) (H:Hp) (a:List V) (Q:VK) (E:XK),jh k (A.deeper (envOfC d (cB b) s.heap.objs.size f c))->g a H Q E->
   ∃ t,Jh (CC cR P w K mg zt N d (cB b) f c A h s H E).Ji (jz b) t/\t { nx:=λ_ o=>Q .gc o,rt:=Q } (start N a) H):bq P w K mg zt cR (k+1) f j e g:=by
 let⟨q,r,kV,u,v,y,c,z,B,rfl,lk,p⟩:=i.ex;refine YW lk p l m λA h s H a Q E p q=>?_;let⟨t,r,u⟩:=n c A h s H a Q E p q;exact⟨t,r.Ji,u⟩
theorem Ny.binds{x i:Str}{a:Stmt}{j:Addr}{b:UV}(k:Ny K x i a j l)
  (m:∀ (kV c d:Value) (e:Option Addr) (f g:Value) (h:WP),↑h=↑b->bindArgs (fnOf x i (mX a) (jz a) (cB a) .none kV c d e f g) ⟨h,[]⟩=pure (b.zip h)):Binds K l b []:=by
 let⟨n,o,kV,c,d,e,f,g,p,rfl,lk,q⟩:=k.ex;exact .all (m kV c d e f g)
theorem Hg{x b:Str}{a:Stmt}{f:Addr}{i:Value}{j d:Option Addr}{k:Array (XB)}{kV e g c h:Value}(l:K.lookup f=some ⟨i,j,.func (fnOf x b (mX a) (jz a) (cB a) .none kV e g d c h),k⟩)
  (m:codeIn K c b=true) (n:keepIn K ↥f=true):Ny K x b a f (fnOf x b (mX a) (jz a) (cB a) .none kV e g d c h):=⟨⟨i,j,kV,e,g,d,c,h,k,1,l,m⟩,n⟩
end
theorem gR{A:Around}{k:Nat}(a:jh k A):A.units+1<cLine:=Nat.lt_of_le_of_lt (Nat.add_le_add_left (by decide:1<=64) _) a.units
section
variable {X:Cx}
theorem pv(i:Nat){x:Str}{a:Pos}(b:X.N[i]?=⇑x:=by rfl)(c:d0 X.env.scope x:=by and_intros)(d:(x == ("__debug__":Str))=false:=by decide)
  (e:(x == ("__classdict__":Str))=false:=by decide):PE X (.Name x a) (QG i):=Vf b c d e
end
def gp{A B:Prop}(h:B):if false=true then A else B:=by
 rw[if_neg lT];exact h
def iF{A B:Prop}(h:A):if true=true then A else B:=by
 rw[if_pos rfl];exact h
def dM{c A B:Prop} [Decidable c] (a:c->A) (b:¬ c->B):if c then A else B:=by
 by_cases h:c
 ·rw[if_pos h];exact a h
 ·rw[if_neg h];exact b h
def Nz{c A B:Prop} [Decidable c] (a:c) (h:B):if (!decide c)=true then A else B:=by
 rw[decide_eq_true a];exact gp h
def aJ(H a:Hp):Prop:=∀ b o,H b=⇑o->a b=⇑o
theorem aJ.refl(H:Hp):aJ H H:=λ_ _ h=>h
theorem aJ.trans{H a b:Hp}(d:aJ H a)(e:aJ a b):aJ H b:=λc o h=>e c o (d c o h)
def aJ.free{H a:Hp}(e:aJ H a){l:Addr}(h:a l=Option.none):H l=Option.none:=by
 cases q:H l with
 | none=>rfl
 | some o =>
  rw[e l o q]at h;cases h
end _L2
namespace _gI
open _L2
def top(i:Nat):Stmt:=PySem.Challenge.pw_inkroot_k54_words_found.main.body.getD i (.Pass ⟨0,0,0,0⟩)
def Q4:Stmt->List Stmt
 | .ClassDef (body:=b) ..=>b
 | _=>[]
def gw(i j:Nat):Stmt:=(Q4 (top i)).getD j (.Pass ⟨0,0,0,0⟩)
inductive DI(K:Frag)(x:Str)(st:Stmt)(f:Addr):Prop
 | mk {b:Value} {c d:Option Addr} {e:Array (XB)} {kV g h a i:Value} (_:nsIn K mainGlobals x=⇑(⇑↥f)) (_:K.lookup f=some ⟨b,c,.func (fnOf x x (mX st) (jz st) (cB st) .none kV g h d a i),e⟩) (_:codeIn K a x=true) (_:keepIn K ↥f=true)
inductive MI(K:Frag)(C:Addr)(x fJ:Str)(st:Stmt)(f:Addr):Prop
 | mk {b:Value} {c d:Option Addr} {e:Array (XB)} {kV g h a i:Value} (_:findIn K ↥C x=⇑(⇑↥f)) (_:isFn K ↥f=true) (_:K.lookup f=some ⟨b,c,.func (fnOf x fJ (mX st) (jz st) (cB st) .none kV g h d a i),e⟩) (_:codeIn K a fJ=true) (_:keepIn K ↥f=true)
inductive CI(K:Frag)(x:Str)(C:Addr):Prop
 | mk (_:nsIn K mainGlobals x=⇑(⇑↥C)) (_:plainGet K C Str.empty=true) (_:hasDictIn K C=true) (_:plainOver K C=true) (_:findIn K ↥C "__setattr__"=⇑(⇑(.builtin "object.__setattr__"))) (_:makesIn K C=true) (_:keepIn K ↥C=true)
class inductive Eo(K:Frag)
 | mk (a:Addr) (b:Wp) (_:vs=[↥a]) (_:bL K H a (b.map V.int)) (_:↑b<=63) (_: ∀ c,Q (.bl true) c)
abbrev Br:Stmt:=top 71
abbrev yr:Stmt:=top 72
abbrev wC:Stmt:=top 73
abbrev sr:Stmt:=top 74
abbrev NB:Stmt:=top 12
abbrev NC:Stmt:=top 13
abbrev rB:Stmt:=top 15
abbrev JA:Stmt:=top 16
abbrev Ub:Stmt:=top 17
abbrev su:Stmt:=top 18
abbrev JB:Stmt:=top 21
abbrev oO:Stmt:=top 23
abbrev JC:Stmt:=top 24
abbrev yt:Stmt:=top 25
abbrev yu:Stmt:=top 26
abbrev oQ:Stmt:=gw 28 0
abbrev wD:Stmt:=gw 28 1
abbrev wG:Stmt:=gw 28 2
abbrev tT:Stmt:=gw 28 3
abbrev yv:Stmt:=top 32
abbrev Hh:Stmt:=top 33
abbrev tU:Stmt:=top 40
abbrev Uc:Stmt:=top 41
abbrev tV:Stmt:=top 38
abbrev mq:Stmt:=top 39
abbrev Bs:Stmt:=top 34
abbrev oq:Stmt:=top 35
abbrev ND:Stmt:=top 36
abbrev Ep:Stmt:=top 43
abbrev tW:Stmt:=top 44
abbrev Hj:Stmt:=top 45
abbrev NF:Stmt:=top 46
abbrev yx:Stmt:=top 47
abbrev yz:Stmt:=top 49
abbrev JD:Stmt:=top 48
abbrev yC:Stmt:=top 50
abbrev tX:Stmt:=top 51
abbrev tY:Stmt:=top 52
abbrev sC:Stmt:=top 54
abbrev wH:Stmt:=top 55
abbrev Er:Stmt:=top 57
abbrev oR:Stmt:=gw 58 0
abbrev yD:Stmt:=gw 58 3
abbrev wI:Stmt:=gw 58 2
abbrev wJ:Stmt:=gw 58 1
abbrev mw:Stmt:=gw 58 4
abbrev lD:Stmt:=gw 58 5
abbrev yE:Stmt:=gw 58 7
abbrev jZ:Stmt:=gw 58 10
abbrev wK:Stmt:=gw 58 9
abbrev pZ:Stmt:=gw 60 0
abbrev qb:Stmt:=gw 30 0
abbrev qc:Stmt:=gw 62 0
abbrev yF:Stmt:=gw 62 2
abbrev yG:Stmt:=gw 62 1
abbrev qd:Stmt:=gw 62 6
abbrev tZ:Stmt:=top 68
abbrev qe:Stmt:=gw 69 1
abbrev rC:Stmt:=gw 69 26
abbrev oS:Stmt:=gw 69 2
abbrev qf:Stmt:=gw 69 3
abbrev qg:Stmt:=gw 69 7
abbrev qh:Stmt:=gw 69 30
abbrev rD:Stmt:=gw 69 6
abbrev t6:Stmt:=gw 69 27
abbrev lE:Stmt:=gw 69 4
abbrev t7:Stmt:=gw 69 8
abbrev mY:Stmt:=gw 69 0
abbrev ua:Stmt:=gw 69 9
abbrev qj:Stmt:=gw 69 11
abbrev uc:Stmt:=gw 69 28
abbrev oU:Stmt:=gw 69 12
abbrev ud:Stmt:=gw 69 13
abbrev rE:Stmt:=gw 69 10
abbrev lF:Stmt:=gw 62 5
abbrev yH:Stmt:=gw 62 3
abbrev lu:Stmt:=gw 69 23
abbrev ue:Stmt:=gw 62 8
abbrev mz:Stmt:=gw 69 5
abbrev rF:Stmt:=gw 69 17
abbrev rG:Stmt:=gw 69 18
abbrev mC:Stmt:=gw 69 36
abbrev yI:Stmt:=top 93
abbrev sD:Stmt:=top 94
abbrev qm:Stmt:=top 82
abbrev yJ:Stmt:=top 83
abbrev yK:Stmt:=top 84
abbrev wL:Stmt:=top 75
abbrev yL:Stmt:=top 77
abbrev rH:Stmt:=top 78
abbrev uf:Stmt:=top 79
abbrev Bt:Stmt:=top 80
abbrev Bu:Stmt:=top 81
abbrev rJ:Stmt:=top 85
abbrev sE:Stmt:=top 86
abbrev wM:Stmt:=top 87
abbrev rK:Stmt:=gw 69 14
abbrev yM:Stmt:=top 88
abbrev rL:Stmt:=top 89
abbrev rM:Stmt:=top 90
abbrev yN:Stmt:=top 91
abbrev yO:Stmt:=top 92
abbrev sF:Stmt:=top 95
abbrev wN:Stmt:=top 96
abbrev wO:Stmt:=top 97
abbrev yP:Stmt:=top 98
abbrev sG:Stmt:=top 99
abbrev wQ:Stmt:=top 100
abbrev NG:Stmt:=top 101
end _gI
namespace _gI
open _L2
inductive Pm(K:Frag)(mg:Ya)(fa:Addr):Prop
 | mk {h:Heap} {g i j k:Tok} (b c d e f a:Addr) (l:K.In h) (G:h.Ns mainGlobals mg) (m:mg "law"=⇑↥fa)
  (n:CI K "Shelf" b)
  (o:findIn K ↥b "states"=⇑none)
  (p:findIn K ↥b "openings"=⇑none)
  (q:CI K "Well" c)
  (r:findIn K ↥c "signs"=⇑none)
  (t:findIn K ↥c "owners"=⇑none)
  (u:findIn K ↥c "pourings"=⇑none)
  (v:CI K "Blots" d)
  (w:findIn K ↥d "stains"=⇑none)
  (x:CI K "Ties" e)
  (y:findIn K ↥e "given"=⇑none)
  (z:findIn K ↥e "pairs"=⇑none)
  (A:CI K "Dues" f)
  (B:findIn K ↥f "sums"=⇑none)
  (C:CI K "Library" a)
  (D:findIn K ↥a "well"=⇑none)
  (H:findIn K ↥a "shelf"=⇑none)
  (I:findIn K ↥a "blots"=⇑none)
  (J:findIn K ↥a "knots"=⇑none)
  (L:findIn K ↥a "dues"=⇑none)
  (M:findIn K ↥a "book"=⇑none)
  (N:DI K "_law_src" Br f0)
  (O:DI K "_law_next" yr f1)
  (T:DI K "_law_whole" wC f2)
  (U:DI K "_law_same" sr f3)
  (q4:DI K "plain" NB f4)
  (q5:DI K "size" NC f5)
  (q6:DI K "check_places" rB f6)
  (q7:DI K "pieces" JA f7)
  (q8:DI K "part" Ub f8)
  (q9:DI K "addresses" su f9)
  (Bx:DI K "spread" JB pH)
  (ab:DI K "first_reaching" oO pM)
  (ae:DI K "within" JC pN)
  (ag:DI K "left_over" yt p3)
  (ai:DI K "without" yu p4)
  (ak:MI K d "__init__" "Blots.__init__" oQ p5)
  (am:MI K d "blot" "Blots.blot" wD p')
  (an:MI K d "lift" "Blots.lift" wG qa)
  (ap:MI K d "hides" "Blots.hides" tT qi)
  (aq:DI K "windows" yv qk)
  (ar:DI K "below" Hh ql)
  (as:DI K "way_between" tU qq)
  (au:DI K "ring" Uc qr)
  (av:DI K "item_weight" tV qs)
  (aw:DI K "weights_below" mq qA)
  (ax:DI K "item_row" Bs qB)
  (aB:DI K "views_below" oq qC)
  (aO:DI K "shown" ND m3)
  (aQ:DI K "goes_on" Ep qV)
  (a0:DI K "plain_items" tW rd)
  (a1:DI K "inked" Hj re)
  (a2:DI K "dealt" NF rh)
  (a3:DI K "put_among" yx f32)
  (a4:DI K "put_items" yz rn)
  (a5:DI K "parted" JD ro)
  (a6:DI K "cut_items" yC rp)
  (a7:DI K "moved_items" tX rr)
  (a8:DI K "fixed_items" tY rx)
  (a9:DI K "ink_words" sC ry)
  (ba:DI K "shown_deed" wH rz)
  (bb:DI K "changed" Er rA)
  (bc:MI K b "__init__" "Shelf.__init__" oR sb)
  (be:MI K b "now" "Shelf.now" yD sf)
  (bi:MI K b "many" "Shelf.many" wI si)
  (bj:MI K b "step" "Shelf.step" wJ sv)
  (bm:MI K b "check_sheet" "Shelf.check_sheet" mw sw)
  (bn:MI K b "check_moment" "Shelf.check_moment" lD sK)
  (bo:MI K b "rows_then" "Shelf.rows_then" jZ sN)
  (bp:MI K b "rows" "Shelf.rows" wK sT)
  (br:MI K b "row" "Shelf.row" yE sX)
  (bt:MI K e "__init__" "Ties.__init__" pZ tf)
  (bv:MI K f "__init__" "Dues.__init__" qb tj)
  (bz:MI K c "__init__" "Well.__init__" qc tk)
  (bA:MI K c "size" "Well.size" yF tm)
  (bB:MI K c "pour" "Well.pour" yG tq)
  (bF:MI K c "holds" "Well.holds" qd ts)
  (bM:DI K "check_weave" tZ tu)
  (bQ:MI K a "__init__" "Library.__init__" mY tz)
  (b0:MI K a "enter" "Library.enter" qe tA)
  (b1:MI K a "change" "Library.change" oS tI)
  (b2:MI K a "many" "Library.many" rC tJ)
  (b3:MI K a "begin" "Library.begin" qf tL)
  (b4:MI K a "fresh" "Library.fresh" qg t5)
  (b5:MI K a "ink" "Library.ink" t6 t9)
  (b6:MI K a "check_held" "Library.check_held" lE f64)
  (b7:MI K a "pour" "Library.pour" rD ub)
  (ca:MI K a "put" "Library.put" t7 ui)
  (cb:MI K a "shown" "Library.shown" qh uj)
  (cc:MI K a "cut" "Library.cut" ua uk)
  (cd:MI K a "quote" "Library.quote" qj ur)
  (ce:MI K a "row" "Library.row" uc ut)
  (cf:MI K a "window" "Library.window" oU uC)
  (cg:MI K a "fix" "Library.fix" ud uE)
  (ch:MI K a "move" "Library.move" rE uU)
  (ci:MI K c "check_address" "Well.check_address" lF u0)
  (cj:MI K c "sign" "Well.sign" yH u8)
  (cm:MI K a "veiled" "Library.veiled" lu u')
  (cn:MI K c "poured" "Well.poured" ue va)
  (cp:MI K a "check_own" "Library.check_own" mz vb)
  (cq:MI K a "blot" "Library.blot" rF vd)
  (cr:MI K a "lift" "Library.lift" rG vk)
  (cs:MI K a "found" "Library.found" mC vm)
  (cv:DI K "_law_sign" yI vr)
  (cw:DI K "_law_text" sD vu)
  (cx:DI K "_law_world" qm vw)
  (cA:DI K "_law_keep" yJ vx)
  (cJ:DI K "_law_swap" yK vy)
  (c0:DI K "_law_spell" wL vz)
  (c1:DI K "_law_show" yL vT)
  (c2:DI K "_law_reached" rH v3)
  (c3:DI K "_law_pieces" uf v4)
  (c4:DI K "_law_put" Bt v5)
  (c5:DI K "_law_cut" Bu v6)
  (c6:DI K "_law_weighed" rJ v')
  (c7:DI K "_law_fits" sE wa)
  (c8:DI K "_law_after" wM wb)
  (da:MI K a "back" "Library.back" rK wd)
  (dd:DI K "_law_done" yM wf)
  (de:DI K "_law_ink_row" rL wh)
  (df:DI K "_law_move_by" rM wn)
  (Zb:DI K "_law_draw" yN wq)
  (Zc:DI K "_law_deed" yO wx)
  (Zd:DI K "_law_pour" sF wy)
  (Ze:DI K "_law_fresh" wN wE)
  (Zf:DI K "_law_begin" wO wP)
  (Zg:DI K "_law_read" yP wS)
  (Zh:DI K "_law_hide" sG wT)
  (Zi:DI K "_law_found" wQ wU)
  (Zj:DI K "law" NG w1)
  (z0:nsIn K mainGlobals "len"=⇑none)
  (z1:nsIn K mainGlobals "list"=⇑none)
  (z2:nsIn K mainGlobals "tuple"=⇑none)
  (z3:nsIn K mainGlobals "int"=⇑none)
  (z4:nsIn K mainGlobals "bool"=⇑none)
  (z5:nsIn K mainGlobals "str"=⇑none)
  (z6:nsIn K mainGlobals "range"=⇑none)
  (z7:nsIn K mainGlobals "zip"=⇑none)
  (z8:nsIn K mainGlobals "isinstance"=⇑none)
  (z9:nsIn K mainGlobals "sum"=⇑none)
  (X0:nsIn K mainGlobals "min"=⇑none)
  (di:nsIn K mainGlobals "max"=⇑none)
  (dq:nsIn K mainGlobals "all"=⇑none)
  (dr:nsIn K mainGlobals "sorted"=⇑none)
  (rN:nsIn K mainGlobals "MOST_SHEETS"=⇑(⇑(.int 40 g)))
  (rO:nsIn K mainGlobals "MOST_WEIGHT"=⇑(⇑(.int 200 i)))
  (Et:nsIn K mainGlobals "HIDDEN"=⇑(⇑(.str "#" j)))
  (By:nsIn K mainGlobals "NO_SIGN"=⇑(⇑(.str "\n" k)))
  (um:nsIn K mainGlobals "size_spans"=⇑(⇑↥f5))
  (rP:nsIn K mainGlobals "shown_weave"=⇑(⇑↥m3))
def Ud:Prop:=∀ {P:Program} {w:World} {K:Frag} {mg:Ya} {b:Addr},Pm K mg b->∃ c:FuncData,(∀ (s:Shared) (v:Value),BindsTo s c ⟨[v],[]⟩ [("_law_script",v)])/\∀ a:Heap,K.In a->a.Ns mainGlobals mg->bq P w K mg a cR 48 b c ["_law_script"] (Eo K)
theorem walk{l:PySem.W.OpenLaw}{q:Program}{g:UV}{i:(Ya)->Heap->Prop}{c:World->Heap->Prop}{d:DefRec}{K:Params->Frag}(j:l.most=some 63)(k:d.params.defaults=[])
  (m:∀ (w:World) (h:Heap),c w h->(K w.params).In h)
  (n:∀ (w:World) (a:Ya) (e:Addr) (h:Heap),(K w.params).In h->h.Ns mainGlobals a->a d.name=⇑↥e->
   ∃ f:FuncData,(∀ (s:Shared) (u:Value),BindsTo s f ⟨[u],[]⟩ [("_law_script",u)])/\∀ b:Heap,(K w.params).In b->b.Ns mainGlobals a->bq l.prog w (K w.params) a b cR 48 e f ["_law_script"] (Eo (K w.params))) :
  PySem.W.WalkO q g i c l.row.toRowW d [] (λo p=>PySem.call o p) :=
 _L2.Q3 (n:=63) (k:=48) (x:="_law_script") (o:=λ_=>cR) (p:=λw=>Eo (K w.params)) j (by decide) k ⟨1,by decide,by decide⟩ m n (λ_ _ r t v _ x=>⟨r,t,1,x,v,λ_=>rfl⟩) λ_ _ _ _ _ z=>z
end _gI
namespace InkHd
open PySem.W Rows
set_option maxRecDepth 100000 in
set_option maxHeartbeats 0 in
def hd2(A:_gI.Ud):PySem.Challenge.rw_inkroot_k54_words_found.Holds:=by
 refine hd_k54 ?_
 k_fill
 refine _gI.walk (l:=PySem.Challenge.rw_inkroot_k54_words_found) rfl rfl (λw h Y=>kIn_of Y) ?F'
 case F' =>
  intro w mg fa h KX G Y9
  refine' A (.mk _ _ _ _ _ _ KX G Y9 (.mk ..) _ _ (.mk ..) _ _ _ (.mk ..) _ (.mk ..) _ _ (.mk ..) _ (.mk ..) _ _ _ _ _ _ (.mk ..) (.mk ..) (.mk ..) (.mk ..) (.mk ..) (.mk ..) (.mk ..) (.mk ..) (.mk ..) (.mk ..) (.mk ..) (.mk ..) (.mk ..) (.mk ..) (.mk ..) (.mk ..) (.mk ..) (.mk ..) (.mk ..) (.mk ..) (.mk ..) (.mk ..) (.mk ..) (.mk ..) (.mk ..) (.mk ..) (.mk ..) (.mk ..) (.mk ..) (.mk ..) (.mk ..) (.mk ..) (.mk ..) (.mk ..) (.mk ..) (.mk ..) (.mk ..) (.mk ..) (.mk ..) (.mk ..) (.mk ..) (.mk ..) (.mk ..) (.mk ..) (.mk ..) (.mk ..) (.mk ..) (.mk ..) (.mk ..) (.mk ..) (.mk ..) (.mk ..) (.mk ..) (.mk ..) (.mk ..) (.mk ..) (.mk ..) (.mk ..) (.mk ..) (.mk ..) (.mk ..) (.mk ..) (.mk ..) (.mk ..) (.mk ..) (.mk ..) (.mk ..) (.mk ..) (.mk ..) (.mk ..) (.mk ..) (.mk ..) (.mk ..) (.mk ..) (.mk ..) (.mk ..) (.mk ..) (.mk ..) (.mk ..) (.mk ..) (.mk ..) (.mk ..) (.mk ..) (.mk ..) (.mk ..) (.mk ..) (.mk ..) (.mk ..) (.mk ..) (.mk ..) (.mk ..) (.mk ..) (.mk ..) (.mk ..) (.mk ..) (.mk ..) (.mk ..) (.mk ..) (.mk ..) (.mk ..) (.mk ..) (.mk ..) (.mk ..) (.mk ..) (.mk ..) (.mk ..) (.mk ..) (.mk ..) (.mk ..) _ _ _ _ _ _ _ _ _ _ _ _ _ _ _ _ _ _ _ _)
  all_goals try first|k_is|k_exc|kts_exm
end InkHd
namespace _cN
open Spec Rows _L2
section
variable {X:Cx}
def eS:jQ X (.builtin "isinstance") (λa H Q=>∃ x T t b,a=[x,.ty T]/\kq X.K H x t/\kitOne X.K t (.type T)=⇑b/\Q (.bl b) H):=by
 intro g s i H a j Q I r h;let⟨x,T,t,b,rfl,c,e,q⟩:=h;let⟨u,v,rfl,d,f⟩:=r.two;cases (show v=Value.type T from f);exact KI I d c e λc=>⟨.bl b,H,I.tok c,1,q⟩
theorem oV{x:Str}{T:String}(a:Gl X x)(b:X.mg x=none)(c:bootBuiltins x=⇑(.type T))(d:x≠"__name__":=by decide)(e:(x == ("__debug__":Str))=false:=by decide):PE X (.Name x f) (tC (.ty T)) :=
 QH a b c rfl d e
end
theorem Q5{d:Cx}{g:_L2.St}{H:Hp}{s:Shared}{h:Heap}{m:Nat}{c:WF}(I:Inv d i g H s)(k:∀ b o,b∉c->s.heap.get? b=⇑o->h.get? b=⇑o)
  (f:∀ b∈c,oj d i H b):Inv d i g H { s with heap:=h,toks:=m }:=by
 let j:∀ b u,H b=⇑u->b∉c:=λb u e z=>by rw[(f b z).1]at e;cases e
 refine I.step (g':=s.gens) (d':=s.drawn) (ch:=c) (λb n=>?_) (λb o _ _ a e _=>k b o a e) (λb o _ _ a e _=>⟨o.slots,k b o a e⟩) (λ_ _ _ _ a=>a) (λb o a e=>⟨o,k b o a e⟩) (λ_ _ e=>e) (λ_ _ _ e=>e) (λb a e=>⟨#[],by rw[e];simp⟩) (λt p=>?_) (λb u e=>?_) I.bare
 ·let⟨_,a,_,l,q,r⟩:=f b n;exact⟨l,a,q,r⟩
 ·let⟨o,a,l,q,r⟩:=p;exact⟨o,a,l,k _ o (λz=>(f _ z).2.1 rfl) q,r⟩
 ·refine (I.hok b u e).stay (λl v a q=>k l v ?_ q) (λ_ q=>q) λ_ _ q=>q;rcases a with z|z
  ·rw[z];exact j b u e
  ·exact j l _ z
theorem Zk{h:Cx}{n:_L2.St}{H:Hp}{s:Shared}{i:Heap}{w:Nat}{d:WF}{p:Addr}{j:List V}{l:WP}(I:Inv h r n H s)(k:∀ b o,b∉d->s.heap.get? b=⇑o->i.get? b=⇑o)
  (m:∀ b∈d,oj h r H b) (t:s.heap.objs.size<=p) (x:↑j<=sizeLine) (y:cE j l) (A:IsTup i p l.toArray):Inv h r n (aL H p (.tup j)) { s with heap:=i,toks:=w }:=by
 let c:H p=none:=I.hok.fresh t;let v:∀ b u,H b=⇑u->b∉d:=λb u e z=>by rw[(m b z).1]at e;cases e
 let q:∀ b o,s.heap.get? b=⇑o->b≠p:=λb o e z=>by subst z;exact absurd (pP (Heap.lt_size e) t) (Nat.lt_irrefl _)
 refine I.step (g':=s.gens) (d':=s.drawn) (ch:=d) (λb f=>?_) (λb o _ _ a e _=>k b o a e) (λb o _ _ a e _=>⟨o.slots,k b o a e⟩) (λb o _ e a=>by rw[aK (q b o e)];exact a) (λb o a e=>⟨o,k b o a e⟩) (λb B e=>by rw[aK (aA e c)];exact e) (λb _ _ e=>by rw[aK (aA e c)];exact e) (λb a e=>⟨#[],by rw[aK (aA e c),e];simp⟩) (λD q=>?_) (λb u e=>?_) I.bare
 ·let⟨_,a,_,g,B,C⟩:=m b f;exact⟨g,a,B,C⟩
 ·let⟨o,a,g,B,C⟩:=q;exact⟨o,a,g,k _ o (λz=>(m _ z).2.1 rfl) B,C⟩
 ·by_cases f:b=p
  ·subst f;rw[af]at e;cases e;exact⟨x,l,y,A⟩
  ·rw[aK f]at e;refine (I.hok b u e).stay (λg f a q=>k g f ?_ q) (λg q=>by rw[aK (aA q c)];exact q) λg B q=>by rw[aK (aA q c)];exact q
   rcases a with z|z
   ·rw[z];exact v b u e
   ·exact v g _ z
def GF(k:Bool)(h:Heap)(i a:Addr)(n:Nat):Prop:=match k with
 | true=>h.IsListIter i a n
 | false=>h.IsTupleIter i a n
def Au(k:Bool)(h:Heap)(a:Addr)(b:Xt):Prop:=match k with
 | true=>h.IsList a b
 | false=>h.IsTuple a b
def GF.at{k:Bool}{h b:Heap}{i c:Addr}{n:Nat}(x:GF k h i c n)(e:∀ o,h.get? i=⇑o->b.get? i=⇑o):GF k b i c n:=by
 cases k
 ·let⟨o,a,r⟩:=x;exact⟨o,e o a,r⟩
 ·let⟨o,a,r⟩:=x;exact⟨o,e o a,r⟩
def Au.at{k:Bool}{h c:Heap}{a:Addr}{d:Xt}(x:Au k h a d)(e:∀ o,h.get? a=⇑o->c.get? a=⇑o):Au k c a d:=by
 cases k
 ·let⟨o,b,r⟩:=x;exact⟨o,e o b,r⟩
 ·let⟨o,b,r⟩:=x;exact⟨o,e o b,r⟩
def GF.obj{k:Bool}{h:Heap}{i b:Addr}{n:Nat}(x:GF k h i b n):∃ o,h.get? i=⇑o/\∀ v,o.data≠.cell v:=by
 cases k
 ·let⟨o,a,_,d⟩:=x;exact⟨o,a,λv z=>by rw[d]at z;cases z⟩
 ·let⟨o,a,_,d⟩:=x;exact⟨o,a,λv z=>by rw[d]at z;cases z⟩
section
variable {prog:Program} {w:World} {A:Around} {E:ZB} {s:Shared}
theorem Hl{a t:Addr}{i:Nat}{f:Xt}{x:Value}{Q:ZB}(d:s.heap.IsTupleIter a t i)(g:s.heap.IsTuple t f)(h:f[i]?=⇑x)
  (j:∀ e,e.IsTupleIter a t (i+1)->Heap.SameBut a s.heap e->Q x { s with heap:=e }):wpAny (model prog w) A (Builtin.SmallTypes.nextOf ↥a) Q E s:=by
 let⟨o,c,k,b⟩:=id d;let⟨n,l,_,o,m⟩:=g;unfold Builtin.SmallTypes.nextOf;refine wpAny_bind (wpAny_callSpecial?_slot (name:=Str.ofString "__next__") d.typeIs F.slot_tuple_iterator_next (wpAny_call_entry F.slot_tuple_iterator_next d.typeIs F.entry_tuple_iterator_next ?_ (F.args_tuple_iterator_next_1 _)));show wpAny _ _ (field ↥a 0 >>= _) _ _ s;refine wpAny_bind (wpAny_field c b (x:=↥t) rfl ?_);show wpAny _ _ (if (Value.ref t == Value.none)=true then _ else _) _ _ s;rw[if_neg (show ¬ ((Value.ref t == Value.none)=true) from lT)];show wpAny _ _ (field ↥a 1 >>= _) _ _ s;refine wpAny_bind (wpAny_field c b (x:=.int i 0) rfl ?_);show wpAny _ _ (seqItems? ↥t >>= _) _ _ s;refine wpAny_bind (wpAny_seqItems l m ?_);simp only[Int.toNat_natCast,h];refine wpAny_bind (wpAny_setField c b (by simp) (wpAny_pure ⟨x,1,wpAny_pure (j _ ?_ (Heap.SameBut.update ..))⟩));exists _,Heap.get?_update_self _ c (Obj.isFreed_of_fields (Obj.data_mapFields b _)),(Obj.cls_mapFields ..).trans k;rw[Obj.data_mapFields b];simp[rawInt]
theorem KW{a t:Addr}{i:Nat}{f:Xt}{Q:ZB}(g:A.handled=none)(b:s.heap.IsTupleIter a t i)(j:s.heap.IsTuple t f)(k:f[i]?=none)
  (l:∀ c h,Heap.ExtBut a s.heap c->(∃ o,c.get? h=⇑o/\o.cls=.type "StopIteration")->E ↥h { s with heap:=c }):wpAny (model prog w) A (Builtin.SmallTypes.nextOf ↥a) Q E s:=by
 let⟨o,d,p,e⟩:=id b;let⟨p,m,_,q,n⟩:=j;unfold Builtin.SmallTypes.nextOf;refine wpAny_bind (wpAny_callSpecial?_slot (name:=Str.ofString "__next__") b.typeIs F.slot_tuple_iterator_next (wpAny_call_entry F.slot_tuple_iterator_next b.typeIs F.entry_tuple_iterator_next ?_ (F.args_tuple_iterator_next_1 _)));show wpAny _ _ (field ↥a 0 >>= _) _ _ s;refine wpAny_bind (wpAny_field d e (x:=↥t) rfl ?_);show wpAny _ _ (if (Value.ref t == Value.none)=true then _ else _) _ _ s;rw[if_neg (show ¬ ((Value.ref t == Value.none)=true) from lT)];show wpAny _ _ (field ↥a 1 >>= _) _ _ s;refine wpAny_bind (wpAny_field d e (x:=.int i 0) rfl ?_);show wpAny _ _ (seqItems? ↥t >>= _) _ _ s;refine wpAny_bind (wpAny_seqItems m n ?_);simp only[Int.toNat_natCast,k];refine wpAny_bind (wpAny_rule (wpAny_bind (wpAny_setField d e (by simp) ?_)));show wpAny _ _ (newExc (.type "StopIteration") [] >>= _) _ _ _;refine wpAny_bind ?_;simp only[newExc,newTuple];refine wpAny_bind (wpAny_newObj_type ?_ (by size_fits))
 refine wpAny_bind (m:=firstArgMember _ _) (wpAny_of_eq (a:=Value.none) (by first|rfl|(simp only[firstArgMember];rfl)) ?_)
 refine wpAny_newObj_type ?_ (by size_fits);simp only[raiseNew];refine wpAny_bind (wpAny_handled ?_)
 first|rw[show A.in1.handled=none from g]|rw[g]
 refine wpAny_bind (wpAny_pure (wpAny_throw ?_));exact l _ _ (((Heap.SameBut.update ..).extBut.push _).push _) ⟨_,Heap.get?_push_size _ rfl,1⟩
theorem sL{k:Bool}{a t:Addr}{i:Nat}{c:Xt}{x:Value}{Q:ZB}(d:GF k s.heap a t i)(e:Au k s.heap t c)(f:c[i]?=⇑x)
  (g:∀ b,GF k b a t (i+1)->Heap.SameBut a s.heap b->Q x { s with heap:=b }):wpAny (model prog w) A (Builtin.SmallTypes.nextOf ↥a) Q E s:=by
 cases k
 ·exact Hl d e f g
 ·exact wpAny_nextOf_list_item d e f g
theorem BA{k:Bool}{a t:Addr}{i:Nat}{c:Xt}{Q:ZB}(d:A.handled=none)(e:GF k s.heap a t i)(f:Au k s.heap t c)(g:c[i]?=none)
  (h:∀ b j,Heap.ExtBut a s.heap b->(∃ o,b.get? j=⇑o/\o.cls=.type "StopIteration")->E ↥j { s with heap:=b }):wpAny (model prog w) A (Builtin.SmallTypes.nextOf ↥a) Q E s:=by
 cases k
 ·exact KW d e f g h
 ·exact wpAny_nextOf_list_end d e f g h
abbrev BB(k:Bool)(l:Addr):Obj:={ cls:=.type (if k then "list_iterator" else "tuple_iterator"),data:=.fields (List.toArray [↥l,.int 0 0]) }
def Ue{k:Bool}{l:Addr}{b:Xt}{Q:ZB}(h:Au k s.heap l b)(a:Q ↥s.heap.objs.size { s with heap:=s.heap.push (BB k l) }):wpAny (model prog w) A (pyIter ↥l) Q E s:=by
 cases k
 ·exact wpAny_pyIter_tuple h a
 ·exact wpAny_pyIter_list h a
structure BC(k:Bool)(h:Heap)(z TI TO i1 i2 l1 l2:Addr)(n:Nat):Prop where
 z:IsZip h z TI TO .none
 ti:IsPair h TI ↥i1 ↥i2
 to:∃ a b,IsPair h TO a b
 i1:GF k h i1 l1 n
 i2:GF k h i2 l2 n
theorem KY{k:Bool}{z TI TO b d l m:Addr}{n:Nat}{M N:Xt}{x y:Value}{Q:ZB}(D:ZipApart z TI TO b d l m)(ab:BC k s.heap z TI TO b d l m n)
  (GG:Au k s.heap l M) (wA:Au k s.heap m N) (hx:M[n]?=⇑x) (hy:N[n]?=⇑y)
  (hQ:∀ f,IsZip f z TI TO (rawInt s.heap.objs.size)->IsPair f TO x y->GF k f b l (n+1)->GF k f d m (n+1)->IsPair f s.heap.objs.size x y->
   (∀ c o,c≠z->c≠TO->c≠b->c≠d->s.heap.get? c=⇑o->f.get? c=⇑o)->Q ↥s.heap.objs.size { s with heap:=f }) :
  wpAny (model prog w) A (Builtin.«zip.__next__» ⟨[↥z],[]⟩) (λae s'=>∃ O,ae=.done (.ret O)/\Q O s') E s:=by
 let⟨p,ag,⟨ai,F,ak⟩,h1,h2⟩:=ab;show wpAny _ _ (field ↥z 2 >>= _) _ _ _;refine wpAny_bind (wpAny_field p rfl (x:=.bool false) rfl ?_);show wpAny _ _ (field ↥z 3 >>= _) _ _ _;refine wpAny_bind (wpAny_field p rfl (x:=↥TI) rfl (wpAny_bind (wpAny_seqItems ag rfl ?_)));show wpAny _ _ (Builtin.SmallTypes.ownedTupleIsFree ↥z >>= _) _ _ _;refine wpAny_bind ?_;unfold Builtin.SmallTypes.ownedTupleIsFree;refine wpAny_bind (wpAny_field p rfl (x:=.none) rfl (wpAny_pure ?_));simp only[if_true];refine wpAny_bind (wpAny_rule (wpAny_bind (wpAny_field p rfl (x:=↥TO) rfl (wpAny_bind (wpAny_setField_rec p (by simp) λg1 G g=>?_)))))
 replace G:IsZip g1 z TI TO .ellipsis:=G
 refine wpAny_bind ?_;simp only[List.zipIdx_cons,List.zipIdx_nil,List.forIn_cons,List.forIn_nil];refine wpAny_bind (wpAny_bind (wpAny_onRaise ?_));show wpAny _ _ (Builtin.SmallTypes.nextOf ↥b >>= _) _ _ _;refine wpAny_bind (sL (h1.at λo e=>g.extBut _ _ D.i1z e) (GG.at λo e=>g.extBut _ _ D.l1z e) hx λp MJ i=>wpAny_pure ?_);let R:IsPair p TO ai F:=i.extBut _ _ D.TOi1 (g.extBut _ _ D.TOz ak);refine wpAny_bind (wpAny_seqItems R rfl (wpAny_bind (wpAny_updateSeq_pair R λg3 H j=>?_)))
 replace H:IsPair g3 TO x F:=H
 refine wpAny_bind (wpAny_letGo (wpAny_pure (wpAny_bind (wpAny_bind (wpAny_onRaise ?_)))));show wpAny _ _ (Builtin.SmallTypes.nextOf ↥d >>= _) _ _ _;refine wpAny_bind (sL (((h2.at λo e=>g.extBut _ _ D.i2z e).at λo e=>i.extBut _ _ D.i12.symm e).at λo e=>j.extBut _ _ D.TOi2.symm e) (((wA.at λo e=>g.extBut _ _ D.l2z e).at λo e=>i.extBut _ _ D.l2i1 e).at λo e=>j.extBut _ _ D.l2TO e) hy λp am q=>wpAny_pure ?_);let S:IsPair p TO x F:=q.extBut _ _ D.TOi2 H;refine wpAny_bind (wpAny_seqItems S rfl (wpAny_bind (wpAny_updateSeq_pair S λa t r=>?_)))
 replace t:IsPair a TO x y:=t
 refine wpAny_bind (wpAny_letGo (wpAny_pure (wpAny_pure (wpAny_bind (wpAny_seqItems t rfl (wpAny_bind (wpAny_newTuple ?_)))))));let T:a.objs.size=s.heap.objs.size:=by rw[r.1,q.1,j.1,i.1,g.1]
 let p:IsZip a z TI TO .ellipsis:=r.extBut _ _ D.TOz.symm (q.extBut _ _ D.i2z.symm (j.extBut _ _ D.TOz.symm (i.extBut _ _ D.i1z.symm G)));let k5:∀ c o,c≠z->c≠TO->c≠b->c≠d->s.heap.get? c=⇑o->a.get? c=⇑o:=λc o h u I J e=>r.extBut _ _ u (q.extBut _ _ J (j.extBut _ _ u (i.extBut _ _ I (g.extBut _ _ h e))));have an:GF k a b l (n+1):=((MJ.at λo e=>j.extBut _ _ D.TOi1.symm e).at λo e=>q.extBut _ _ D.i12 e).at λo e=>r.extBut _ _ D.TOi1.symm e;have ap:GF k a d m (n+1):=am.at λo e=>r.extBut _ _ D.TOi2.symm e;have U:z<a.objs.size:=Heap.lt_size p;show wpAny _ _ (Builtin.SmallTypes.ownedTupleHandOut ↥z ↥a.objs.size >>= _) _ _ _;refine wpAny_bind ?_;unfold Builtin.SmallTypes.ownedTupleHandOut;have g:IsZip (a.push { cls:=.type "tuple",data:=.seq (List.toArray [x,y]) }) z TI TO .ellipsis:=Heap.get?_push_of_some _ p;refine wpAny_bind (wpAny_setField_rec g (by simp) λg7 L W=>?_)
 replace L:IsZip g7 z TI TO (rawInt a.objs.size):=L
 refine wpAny_setField_rec L (by simp) λv B X=>?_
 replace B:IsZip v z TI TO (rawInt a.objs.size):=B
 let C:∀ c o,c≠z->a.get? c=⇑o->v.get? c=⇑o:=λc o h e=>X.extBut _ _ h (W.extBut _ _ h (Heap.get?_push_of_some _ e));have t8:IsPair v a.objs.size x y:=X.extBut _ _ (Nat.ne_of_gt U) (W.extBut _ _ (Nat.ne_of_gt U) (Heap.get?_push_size _ rfl));rw[T]at B t8;refine wpAny_pure ⟨Y,?_⟩;show Q ↥a.objs.size _;rw[T];exact hQ v B (C _ _ D.TOz t) (an.at λo e=>C _ o D.i1z e) (ap.at λo e=>C _ o D.i2z e) t8 λc o h u I J e=>C c o h (k5 c o h u I J e)
theorem NL{p:Bool}{z TI TO k l q r:Addr}{n:Nat}{t u:Xt}{Q:Fin->Shared->Prop}(I:A.handled=none)(D:ZipApart z TI TO k l q r)(T:BC p s.heap z TI TO k l q r n)
  (J:Au p s.heap q t) (U:Au p s.heap r u) (VG:t[n]?=none\/u[n]?=none)
  (L:∀ v e,(∀ c o,c≠z->c≠TO->c≠k->c≠l->s.heap.get? c=⇑o->v.get? c=⇑o)->(∃ o,v.get? e=⇑o/\o.cls=.type "StopIteration")->E ↥e { s with heap:=v }) :
  wpAny (model prog w) A (Builtin.«zip.__next__» ⟨[↥z],[]⟩) Q E s:=by
 let⟨g,W,⟨X,ab,ae⟩,M,h2⟩:=T;show wpAny _ _ (field ↥z 2 >>= _) _ _ _;refine wpAny_bind (wpAny_field g rfl (x:=.bool false) rfl ?_);show wpAny _ _ (field ↥z 3 >>= _) _ _ _;refine wpAny_bind (wpAny_field g rfl (x:=↥TI) rfl (wpAny_bind (wpAny_seqItems W rfl ?_)));show wpAny _ _ (Builtin.SmallTypes.ownedTupleIsFree ↥z >>= _) _ _ _;refine wpAny_bind ?_;unfold Builtin.SmallTypes.ownedTupleIsFree;refine wpAny_bind (wpAny_field g rfl (x:=.none) rfl (wpAny_pure ?_));simp only[if_true];refine wpAny_bind (wpAny_rule (wpAny_bind (wpAny_field g rfl (x:=↥TO) rfl (wpAny_bind (wpAny_setField_rec g (by simp) λg1 m a=>?_)))))
 replace m:IsZip g1 z TI TO .ellipsis:=m
 refine wpAny_bind ?_;simp only[List.zipIdx_cons,List.zipIdx_nil,List.forIn_cons,List.forIn_nil];refine wpAny_bind (wpAny_bind (wpAny_onRaise ?_));show wpAny _ _ (Builtin.SmallTypes.nextOf ↥k >>= _) _ _ _
 cases y:t[n]? with
 | none =>
  refine wpAny_bind (BA I (M.at λo e=>a.extBut _ _ D.i1z e) (J.at λo e=>a.extBut _ _ D.l1z e) y λB e b C=>?_);let⟨F,d,i⟩:=C;let N:IsZip B z TI TO .ellipsis:=b _ _ D.i1z.symm m;let G:e≠z:=λx=>by subst x;rw[N]at d;cases d;simp at i
  exact wpAny_setField_rec N (by simp) λO _ f=>L O e (λc o j _ H _ x=>f.extBut _ _ j (b _ _ H (a.extBut _ _ j x))) ⟨F,f.extBut _ _ G d,i⟩
 | some x =>
  let hy:u[n]?=none:=by rcases VG with h|h;(rw[y]at h;cases h);exact h
  refine wpAny_bind (sL (M.at λo e=>a.extBut _ _ D.i1z e) (J.at λo e=>a.extBut _ _ D.l1z e) y λB g b=>wpAny_pure ?_);let N:IsPair B TO X ab:=b.extBut _ _ D.TOi1 (a.extBut _ _ D.TOz ae);refine wpAny_bind (wpAny_seqItems N rfl (wpAny_bind (wpAny_updateSeq_pair N λO g f=>?_)));refine wpAny_bind (wpAny_letGo (wpAny_pure (wpAny_bind (wpAny_bind (wpAny_onRaise ?_)))));show wpAny _ _ (Builtin.SmallTypes.nextOf ↥l >>= _) _ _ _;refine wpAny_bind (BA I (((h2.at λo e=>a.extBut _ _ D.i2z e).at λo e=>b.extBut _ _ D.i12.symm e).at λo e=>f.extBut _ _ D.TOi2.symm e) (((U.at λo e=>a.extBut _ _ D.l2z e).at λo e=>b.extBut _ _ D.l2i1 e).at λo e=>f.extBut _ _ D.l2TO e) hy λg e R C=>?_);let⟨F,d,i⟩:=C;let S:IsZip g z TI TO .ellipsis:=R _ _ D.i2z.symm (f.extBut _ _ D.TOz.symm (b.extBut _ _ D.i1z.symm m));let G:e≠z:=λx=>by subst x;rw[S]at d;cases d;simp at i
  exact wpAny_setField_rec S (by simp) λm _ g=>L m e (λc o j m H y x=>g.extBut _ _ j (R _ _ y (f.extBut _ _ m (b.extBut _ _ H (a.extBut _ _ j x))))) ⟨F,g.extBut _ _ G d,i⟩
theorem Ho{k:Bool}{z TI TO b d e f:Addr}{n:Nat}{g h:Xt}{x y:Value}{Q:Option Value->Shared->Prop}(D:ZipApart z TI TO b d e f)(i:BC k s.heap z TI TO b d e f n)
  (l:Au k s.heap e g) (m:Au k s.heap f h) (p:g[n]?=⇑x) (q:h[n]?=⇑y)
  (r:∀ a,IsZip a z TI TO (rawInt s.heap.objs.size)->IsPair a TO x y->GF k a b e (n+1)->GF k a d f (n+1)->IsPair a s.heap.objs.size x y->
   (∀ c o,c≠z->c≠TO->c≠b->c≠d->s.heap.get? c=⇑o->a.get? c=⇑o)->Q (⇑↥s.heap.objs.size) { s with heap:=a }):wpAny (model prog w) A (pyNext ↥z) Q E s:=by
 let j:s.TypeIs ↥z "zip":=⟨_,i.z,1⟩;unfold pyNext;exact wpAny_bind (wpAny_attempt (wpAny_callSpecial?_slot (name:=Str.ofString "__next__") j F.slot_zip_next (wpAny_call_entry F.slot_zip_next j F.entry_zip_next (KY D i l m p q λa j t u v B C=>wpAny_pure (r a j t u v B C)) (F.args_zip_next_1 _))))
theorem KZ{k:Bool}{z TI TO a b d e:Addr}{n:Nat}{g h:Xt}{Q:Option Value->Shared->Prop}(l:A.handled=none)(D:ZipApart z TI TO a b d e)(i:BC k s.heap z TI TO a b d e n)
  (m:Au k s.heap d g) (p:Au k s.heap e h) (q:g[n]?=none\/h[n]?=none)
  (r:∀ f,(∀ c o,c≠z->c≠TO->c≠a->c≠b->s.heap.get? c=⇑o->f.get? c=⇑o)->Q none { s with heap:=f }):wpAny (model prog w) A (pyNext ↥z) Q E s:=by
 let j:s.TypeIs ↥z "zip":=⟨_,i.z,1⟩;unfold pyNext;refine wpAny_bind (wpAny_attempt (wpAny_callSpecial?_slot (name:=Str.ofString "__next__") j F.slot_zip_next (wpAny_call_entry F.slot_zip_next j F.entry_zip_next (NL l D i m p q λf u j t=>?_) (F.args_zip_next_1 _))));let⟨o,u,v⟩:=t;exact wpAny_bind (wpAny_isInstance (T:="StopIteration") (b:=true) ⟨o,u,v⟩ isSubtype_stop (wpAny_pure (r _ j)))
end
abbrev ej(k:Bool)(h:Heap)(a:Addr):Heap:=h.push (BB k a)
abbrev ek(k:Bool)(h:Heap)(a b:Addr):Heap:=(ej k h a).push (BB k b)
abbrev el(k:Bool)(h:Heap)(a b:Addr):Heap:=(ek k h a b).push { cls:=.type "tuple",data:=.seq (List.toArray [↥h.objs.size,.ref (ej k h a).objs.size]) }
abbrev er(k:Bool)(h:Heap)(a b:Addr):Heap:=(el k h a b).push { cls:=.type "tuple",data:=.seq (List.toArray [.none,.none]) }
abbrev X3(k:Bool)(h:Heap)(a b:Addr):Heap:=(er k h a b).push { cls:=.type "zip",data:=.fields (List.toArray [.none,.bool false,.bool false,.ref (ek k h a b).objs.size,.ref (el k h a b).objs.size]) }
theorem Hq(k:Bool)(a b:Addr)(c d:Xt) :
  Meets (Builtin.«zip.__new__» ⟨[.type "zip",↥a,↥b],[]⟩) (λ_ e s=>Au k s.heap a c/\Au k s.heap b d/\e (.ok (.ret (.ref (er k s.heap a b).objs.size))) { s with heap:=X3 k s.heap a b }) :=
 .of_wp λf w A e s h=>by
  let⟨f,g,i,j,l⟩:=s;let⟨m,n,h⟩:=h;let o:=sub_zip;let o:Au k (Shared.heap ⟨f,g,i,j,l⟩) a c:=m;let m:Au k (Shared.heap ⟨f.push (BB k a),g,i,j,l⟩) b d:=n.at λg f=>Heap.get?_push_of_some _ f
  wp_walk using Ue o,Ue m
  exact⟨Y,h⟩
section
variable {prog:Program} {w:World} {A:Around} {E:ZB} {s:Shared}
theorem K0{k:Bool}{a b:Addr}{j l:Xt}{Q:ZB}(r:Au k s.heap a j)(t:Au k s.heap b l)
  (u:∀ c,BC k c (s.heap.objs.size+4) (s.heap.objs.size+2) (s.heap.objs.size+3) s.heap.objs.size (s.heap.objs.size+1) a b 0->(∀ d o,s.heap.get? d=⇑o->c.get? d=⇑o)->Q (.ref (s.heap.objs.size+4)) { s with heap:=c }) :
  wpAny (model prog w) A (call (.type "zip") [↥a,↥b]) Q E s:=by
 refine callType_new F.called_zip (by decide) (F.typeCall_zip_2 _ _) (F.newCall_zip_2 _ _) (λe=>F.args_object_init_3 e _ _) F.entry_zip_new (Hq k a b j l) ⟨r,t,?_⟩;let e:(ej k s.heap a).objs.size=s.heap.objs.size+1:=Heap.size_push ..;let f:(ek k s.heap a b).objs.size=s.heap.objs.size+2:=by rw[Heap.size_push,e]
 let g:(el k s.heap a b).objs.size=s.heap.objs.size+3:=by rw[Heap.size_push,f]
 let m:(er k s.heap a b).objs.size=s.heap.objs.size+4:=by rw[Heap.size_push,g]
 let h:(X3 k s.heap a b).get? (er k s.heap a b).objs.size=⇑_:=Heap.get?_push_size _ rfl;let n:(X3 k s.heap a b).get? (el k s.heap a b).objs.size=⇑_:=Heap.get?_push_of_some _ (Heap.get?_push_size _ rfl);let p:(X3 k s.heap a b).get? (ek k s.heap a b).objs.size=⇑_:=Heap.get?_push_of_some _ (Heap.get?_push_of_some _ (Heap.get?_push_size _ rfl));let i:(X3 k s.heap a b).get? (ej k s.heap a).objs.size=⇑(BB k b):=Heap.get?_push_of_some _ (Heap.get?_push_of_some _ (Heap.get?_push_of_some _ (Heap.get?_push_size _ rfl)));let q:(X3 k s.heap a b).get? s.heap.objs.size=⇑(BB k a):=Heap.get?_push_of_some _ (Heap.get?_push_of_some _ (Heap.get?_push_of_some _ (Heap.get?_push_of_some _ (Heap.get?_push_size _ rfl))));show _/\_;rw[f,g,m]at h;rw[e,f]at p;rw[g]at n;rw[e]at i;rw[m];refine⟨⟨_,h,1⟩,u _ ⟨h,p,⟨E,n⟩,?_,?_⟩ λd o x=>Heap.get?_push_of_some _ (Heap.get?_push_of_some _ (Heap.get?_push_of_some _ (Heap.get?_push_of_some _ (Heap.get?_push_of_some _ x))))⟩
 ·cases k
  ·exact⟨_,q,V⟩
  ·exact⟨_,q,V⟩
 ·cases k
  ·exact⟨_,i,V⟩
  ·exact⟨_,i,V⟩
end
def JI(K:Frag)(k:Bool)(H:Hp)(a:Addr)(b:List V):Prop:=match k with
 | true=>bL K H a b
 | false=>dO K H a b
def vj{c:Cx}{e:_L2.St}{H:Hp}{s:Shared}{k:Bool}{d:Addr}{b:List V}(I:Inv c f e H s)(h:JI c.K k H d b):∃ a:List Value,cE b a/\Au k s.heap d a.toArray/\↑b<=sizeLine:=by
 cases k
 ·let⟨a,r,p,z⟩:=I.tuple h;exact⟨a,r,p,z⟩
 ·let⟨a,r,p,z⟩:=I.list h;exact⟨a,r,p.isList,z⟩
def JJ{a:Cx}{f:_L2.St}{H:Hp}{s:Shared}{k:Bool}{b:Addr}{c d:List V}(I:Inv a g f H s)(h:JI a.K k H b c)(e:JI a.K k H b d):c=d:=by
 cases k
 ·exact I.Be h e
 ·exact I.Eg h e
def NN{k:Bool}{h:Heap}{b:Addr}{c:Xt}(x:Au k h b c):b<h.objs.size:=by
 cases k
 ·let⟨o,a,_⟩:=x;exact Heap.lt_size a
 ·let⟨o,a,_⟩:=x;exact Heap.lt_size a
def Zl(K:Frag)(k:Bool)(c d:Addr):It :=
 ⟨λi H=>∃ a b x y,JI K k H c a/\JI K k H d b/\a[i]?=⇑x/\b[i]?=⇑y,λi H v e=>∃ p x y,H p=none/\v=↥p/\e=aL H p (.tup [x,y])/\(∀ a,JI K k H c a->a[i]?=⇑x)/\∀ b,JI K k H d b->b[i]?=⇑y,λi H=>∃ a b,JI K k H c a/\JI K k H d b/\(↑a<=i\/↑b<=i)⟩
theorem NO{P:Program}{ae:World}{K:Frag}{x1:Nat}{N:Bool}{z TI TO g h q r:Addr}(D:ZipApart z TI TO g h q r) :
  GX P ae K (.Tuple VI x1 KH) (Zl K N q r) [z,TI,TO,g,h] z (λj k=>BC N k z TI TO g h q r j) where
 mem:=by simp
 obj:=λj k c b a=>by
  let⟨l,m,⟨x,y,n⟩,p,d⟩:=c;simp only[List.mem_cons,List.not_mem_nil,or_false]at a;rcases a with rfl|rfl|rfl|rfl|rfl
  ·exact⟨_,l,λv e=>by cases e⟩
  ·exact⟨_,m,λv e=>by cases e⟩
  ·exact⟨_,n,λv e=>by cases e⟩
  ·exact p.obj
  ·exact d.obj
 keep:=λj k O c f=>by
  let⟨l,m,⟨x,y,n⟩,p,d⟩:=c;exact⟨f z (by simp) _ l,f TI (by simp) _ m,⟨x,y,f TO (by simp) _ n⟩,p.at λo e=>f g (by simp) o e,d.at λo e=>f h (by simp) o e⟩
 item:=by
  intro X A B C R j S s T U E I t c F;subst A B C;let⟨xs,ys,M,W,u,w,e1,e2⟩:=F;let⟨us,G,H,_⟩:=vj I u;let⟨vs,J,L,_⟩:=vj I w;let⟨ab,i,ru⟩:=G.get e1;let⟨v,ev,rv⟩:=J.get e2;refine Ho (x:=ab) (y:=v) D c H L (by simpa using i) (by simpa using ev) λO i g2 g3 g4 g5 g7=>?_;refine⟨Y,wpAny_letOwnedTupleGo_zip i λd ag i=>?_⟩;have ne:∀ {b o},s.heap.get? b=⇑o->s.heap.objs.size≠b:=λe=>Nat.ne_of_gt (Heap.lt_size e)
  let k2:∀ b o,b∉[z,TI,TO,g,h]->s.heap.get? b=⇑o->d.get? b=⇑o:=λb o a e=>by
   simp only[List.mem_cons,List.not_mem_nil,or_false,not_or]at a;exact i.extBut _ _ a.1 (g7 b o a.1 a.2.2.1 a.2.2.2.1 a.2.2.2.2 e)
  let I2:Inv X S T (aL U s.heap.objs.size (.tup [M,W])) { s with heap:=d,toks:=s.toks } := Zk I k2 t (fH _) (by show 2<=sizeLine;decide) (.cons ru (.cons rv .nil)) ⟨_,i.extBut _ _ (ne c.z) g5,1,Y⟩;refine⟨↥s.heap.objs.size,_,I2,1,⟨_,M,W,I.hok.fresh (fH _),V,λW M=>?_,λW M=>?_⟩,?_,λb a=>?_⟩
  ·rw[JJ I M u];exact e1
  ·rw[JJ I M w];exact e2
  ·exact⟨ag,i.extBut _ _ D.TIz (g7 _ _ D.TIz D.TITO D.TIi1 D.TIi2 c.ti),⟨ab,v,i.extBut _ _ D.TOz g2⟩,g3.at λo e=>i.extBut _ _ D.i1z e,g4.at λo e=>i.extBut _ _ D.i2z e⟩
  ·let pK:∃ o,s.heap.get? b=⇑o:=by
    let⟨l,m,⟨x,y,n⟩,p,d⟩:=c;simp only[List.mem_cons,List.not_mem_nil,or_false]at a;rcases a with rfl|rfl|rfl|rfl|rfl
    ·exact⟨_,l⟩
    ·exact⟨_,m⟩
    ·exact⟨_,n⟩
    ·exact p.obj.imp λ_ e=>e.1
    ·exact d.obj.imp λ_ e=>e.1
   let⟨o,e⟩:=pK;rw[aK (ne e).symm];exact (t b a).1
 done:=by
  intro X A B C R j S s T U E I t c F;subst A B C;let⟨xs,ys,u,w,e⟩:=F;let⟨us,G,H,_⟩:=vj I u;let⟨vs,J,L,_⟩:=vj I w;let q:=↑G;let r:=↑J;refine KZ (I.ok.hd R) D c H L (e.imp (λe=>by simp;lia) (λe=>by simp;lia)) λO f=>⟨1,Q5 (m:=s.toks) (c:=[z,TI,TO,g,h]) I (λb o a e=>?_) t⟩;simp only[List.mem_cons,List.not_mem_nil,or_false,not_or]at a;exact f b o a.1 a.2.2.1 a.2.2.2.1 a.2.2.2.2 e
 self:=λ_ _ _ _ _ c k=>wpAny_pyIter_zip c.z k
def m4(K:Frag)(d:TA):TI:=fun a H R=>d a H λe a=>∃ k b c f g,e=[↥b,↥c]/\JI K k a b f/\JI K k a c g/\R (Zl K k b c) a
theorem VJ{a:Cx}{o:Nat}{d b:Expr}{g:TA}{p:Pos}(q:Gl a "zip")(r:a.mg "zip"=none)(t:PA a [d,b] g)
  (u:starEach [d,b] a.env=[(false,eval d a.env),(false,eval b a.env)]:=by rfl) (h:starEach [b] a.env=[(false,eval b a.env)]:=by rfl):PI a (.Tuple L o M) (.Call (.Name "zip" p) [d,b] [] v) (m4 a.K g):=by
 intro i s j H R I l;refine Call_ (vc I q r boot_zip (PyProof.Rows.callWith_type1 (dN (t v i s j H _ I l) λw e ⟨l,k,c,x,f⟩=>?_) (by rw[u,h]) (by rw[h];rfl)));let⟨l,y,z,H,I,A,f,B,C⟩:=f;subst A;let⟨D,F,rfl,G,J⟩:=x.two;cases (show D=Value.ref y from G);cases (show F=Value.ref z from J);let⟨w,w,l,_⟩:=vj c f;let⟨w,x,f,_⟩:=vj c B;let w:=NN l;let x:=NN f;refine K0 l f λl f y=>wpAny_pyIter_zip f.z ?_;have z:Inv a i j k { e with heap:=l,toks:=e.toks }:=c.kept y;refine⟨Q,_,k,1,z,NO (zipApart_new w x),f,λb m=>?_,C⟩
 let n:e.heap.objs.size<=b:=by
  simp only[List.mem_cons,List.not_mem_nil,or_false]at m;rcases m with rfl|rfl|rfl|rfl|rfl
  ·exact Nat.le_add_right _ _
  ·exact Nat.le_add_right _ _
  ·exact Nat.le_add_right _ _
  ·exact fH _
  ·exact Nat.le_add_right _ _
 exact c.Kz n (c.hok.fresh n)
theorem Q7{K:Frag}{k:Bool}{f:Addr}{b c:List V}{q:TG}{r:TS}{D:Ends}{a:_L2.St}{H:Hp}(d:Nat->_L2.St->Hp->Prop)(I:↑b=↑c)(u:d 0 a H)
  (v:∀ i a H,i<=↑b->d i a H->JI K k H f b/\JI K k H g c)
  (w:∀ i x y p a H,b[i]?=⇑x->c[i]?=⇑y->H p=none->d i a H->q ↥p a (aL H p (.tup [x,y])) fun h j=>r (D.lp (d (i+1))) h j) (z:∀ a H,d ↑b a H->D.nx a H) :
  ∃ W:Nat->Nat->_L2.St->Hp->Prop,(∃ m,W 0 m a H)/\∀ i m a H,W i m a H->
   ((Zl K k f g).stop i H/\D.nx a H)\/((Zl K k f g).go i H/\∃ N:_L2.St->Hp->Prop,(∀ l e,N l e->∃ t,t<m/\W (i+1) t l e)/\∀ x e,(Zl K k f g).M0 i H x e->q x a e fun h j=>r (D.lp N) h j):=by
 refine⟨λi m a H=>m=↑b-i/\i<=↑b/\d i a H,⟨↑b,by simp,Nat.zero_le _,u⟩,?_⟩;rintro i m a H ⟨rfl,s,p⟩;let⟨n,o⟩:=v i a H s p;by_cases s:i<↑b
 ·let A:i<↑c:=by lia
  refine .inr ⟨⟨b,c,b[i],c[i],n,o,by simp[s],by simp[A]⟩,d (i+1),fun l e A=>⟨↑b-(i+1),by lia,1,s,A⟩,λx e y=>?_⟩;let⟨B,C,F,G,rfl,rfl,s,A⟩:=y;exact w i C F B a _ (s b n) (A c o) G p
 ·let A:i=↑b:=by lia
  subst A;exact .inl ⟨⟨b,c,n,o,.inl (fH _)⟩,z a H p⟩
def BD(lo:Int)(n:Nat):List V:=(List.range n).map λi:Nat=>V.int (lo+i)
section
variable {X:Cx}
def Eu:jQ X (.type "range") (λa H Q=>∃ i j:Int,a=[.int i,.int j]/\∀ p,H p=none->Q ↥p (aL H p (.D5 i j))):=by
 intro c s d H a e Q I r h;let⟨i,j,rfl,q⟩:=h;let⟨f,g,rfl,⟨t,rfl⟩,⟨b,rfl⟩⟩:=r.two;refine call_range_2 ⟨↥s.heap.objs.size,_,I.laid (o:=.D5 i j) (λc o e=>Heap.get?_push_of_some _ e) (fH _) ⟨t,b,s.toks,Heap.get?_push_size _ rfl⟩,1,q _ (I.hok.fresh (fH _))⟩
theorem rQ(h:X.calm=true):jQ X (.type "list") (λc H Q=>∃ p i j,c=[↥p]/\H p=⇑(.D5 i j)/\(-(2^62)<=i/\i<2^62/\-(2^62)<=j/\j<2^62)/\(j-i).toNat<=sizeLine/\
  ∀ l,H l=none->Q ↥l (aL H l (.lst (BD i (j-i).toNat)))):=by
 intro D s F H c a Q I r d;let⟨p,i,j,rfl,hp,⟨m,o,q,w⟩,x,y⟩:=d;let⟨u,rfl,z⟩:=r.one;cases (show u=Value.ref p from z);let⟨t,u,v,e⟩:=(show gA X.prog X.w H s.heap p (.D5 i j) from I.hok p _ hp)
 let A:Builtin.Range.rangeSize i j 1=(((j-i).toNat:Nat):Int):=by rw[rangeSize_one];split <;> lia
 let d:(j-i).toNat<=2^24:=by have:=sizeLine_eq;lia
 refine call_list_range (I.ok.hd h) e (small_one m o q w) A d λw m d o q r f=>?_;refine⟨↥s.heap.objs.size,_,I.laid (o:=.lst (BD i (j-i).toNat)) (t':=m) q (fH _) ⟨?_,d.toList,o,?_,by simpa using r⟩,1,y _ (I.hok.fresh (fH _))⟩
 ·unfold BD;simpa using x
 ·let b:↑d.toList=(j-i).toNat:=by simpa using f.1
  let B:∀ (n:Nat) (a:WP) (lo:Int),↑a=n->(∀ k v,a[k]?=⇑v->∃ t,v=Value.int (lo+(k:Nat)*1) t)->cE ((List.range n).map λi:Nat=>V.int (lo+i)) a:=by
   intro n
   induction n with
   | zero=>intro a lo b _;cases a with
    | nil=>exact .nil
    | cons=>simp at b
   | succ n C =>
    intro a lo b g
    cases a with
    | nil=>simp at b
    | cons u a =>
     rw[List.range_succ_eq_map,jv,List.map_map];refine .cons ?_ ?_
     ·let⟨t,e⟩:=g 0 u rfl;exact⟨t,by rw[e];simp⟩
     ·have:=C a (lo+1) (by simpa using b) λk v e=>by
       let⟨t,a⟩:=g (k+1) v (by simpa using e);exists t;rw[a];have:lo+((k+1:Nat):Int)*1=lo+1+(k:Int)*1:=by lia
       rw[this]
      let a:((λi:Nat=>V.int (lo+i)) ∘ Nat.succ)=λi:Nat=>V.int (lo+1+i):=by
       funext i;simp only[Function.comp,Nat.succ_eq_add_one];have:lo+((i+1:Nat):Int)=lo+1+(i:Int):=by lia
       rw[this]
      rw[a];exact this
  exact B _ _ i b λk v e=>f.2 k v (by simpa using e)
end
section
variable {X:Cx}
def NP{j:Int}(a:0<j)(b:j<10^70):j.natAbs.log2<9000:=by
 let h:j.natAbs<2^9000:=Nat.lt_trans (show j.natAbs<10^70 by lia) nofun;exact (Nat.log2_lt ∅).mpr h
theorem yR:rm X (binaryOp .FloorDiv) (rI (λ_ j=>0<j/\j<10^70) λi j=>.int (i / j)):=d6 λi j _ _ _ _ _ a q=>by
 let b:(0:Int)<j:=a.1;exact floordiv_int ∅ (by rw[Int.fdiv_eq_ediv_of_nonneg i ∅];exact q) (.inl (PyProof.noPylong_of_log2 (NP a.1 a.2)))
def Ew(g:X.calm=true):jQ X (.builtin "sum") (λd H Q=>∃ (p:Addr) (a:Wp),d=[↥p]/\bL X.K H p (a.map V.int)/\Q (.int a.sum) H):=by
 intro j s l H d m Q I r h;let⟨p,a,rfl,i,q⟩:=h;let⟨u,rfl,b⟩:=r.one;cases (show u=Value.ref p from b);let⟨b,h,j,l⟩:=I.list i;let e:IntsAre b a:=intsAre_of h;let h:AllInts b.toArray:=e.allInts;let⟨i,k⟩:=h.items;let f:=j.isList;let c:(numsOf b.toArray.toList).sum=a.sum:=by rw[show b.toArray.toList=b from rfl,e.numsOf]
 rw[k]at f c;rw[nums_intItems]at c;refine PySem.sum_intListG (I.ok.hd g) f λf h b e=>⟨.int a.sum,H,I.kept e,⟨b,?_⟩,q⟩;rw[preSum_eq,pO (by simp),c]
end
end _cN
namespace _gI
abbrev Row:=List (Int × Int)
def jj(t:Row)(s e:Int):Row :=
 match t.getLast? with
 | some p=>if p.2=s then t.dropLast++[(p.1,e)] else t++[(s,e)]
 | none=>t++[(s,e)]
def dZ(t:Row)(p:Int × Int):Row:=if p.1=p.2 then t else jj t p.1 p.2
def cD(r:Row):Row:=r.foldl dZ []
def run(s:Int):Nat->List Int
 | 0=>[]
 | n+1=>s::run (s+1) n
def gx(p:Int × Int):Wp:=run p.1 (p.2-p.1).toNat
def bC(r:Row):Wp:=r.flatMap gx
def cL(a:Wp):Row:=a.foldl (λt n=>jj t n (n+1)) []
def dG(s:Int)(n:Nat):↑(run s n)=n:=by
 induction n generalizing s with
 | zero=>rfl
 | succ n a=>simp[run,a]
theorem jA(s e:Int):jj [] s e=[(s,e)]:=rfl
def jB(t:Row){q:Int × Int}{s:Int}{e:Int}(h:q.2=s):jj (t++[q]) s e=t++[(q.1,e)]:=by
 simp[jj,h]
def jC(t:Row){q:Int × Int}{s:Int}{e:Int}(h:¬ q.2=s):jj (t++[q]) s e=t++[q]++[(s,e)]:=by
 simp[jj,h]
def K9(t:Row)(a s e:Int):jj (t++[(a,s)]) s e=t++[(a,e)]:=by
 simp[jj]
def yS(t:Row)(a s:Int)(n:Nat):(run s n).foldl (λt n=>jj t n (n+1)) (t++[(a,s)])=t++[(a,s+n)]:=by
 induction n generalizing s with
 | zero=>simp[run]
 | succ n b =>
  rw[run,jV,K9,b];have:s+1+(n:Int)=s+((n+1:Nat):Int):=by lia
  rw[this]
def NQ(t:Row)(p:Int × Int)(h:p.1<=p.2):dZ t p=(gx p).foldl (λt n=>jj t n (n+1)) t:=by
 let⟨s,e⟩:=p;simp only at h;unfold dZ gx;by_cases a:s=e
 ·subst a;simp[run]
 ·obtain⟨n,b⟩:∃ n:Nat,e=s+1+n:=⟨(e-s-1).toNat,by lia⟩;subst b;rw[if_neg a];let a:((s,s+1+(n:Int)).2-(s,s+1+(n:Int)).1).toNat=n+1:=by simp only;lia
  rw[a,run,jV];simp only;rcases l6 t with rfl|⟨u,q,rfl⟩
  ·rw[jA,jA];exact (yS [] s (s+1) n).symm
  ·by_cases a:q.2=s
   ·rw[kj,jB u a,jB u a,yS]
   ·rw[kj,jC u a,jC u a,yS]
theorem mD{d e b:Type}(f:b->e->b)(g:d->List e):∀ (l:List d) (c:b),(l.flatMap g).foldl f c=l.foldl (λc a=>(g a).foldl f c) c
 | [],_=>rfl
 | a::l,c=>by rw[jb,List.foldl_append,jV,mD f g l]
def nM(r:Row)(h:∀ p∈r,p.1<=p.2):cD r=cL (bC r):=by
 unfold cD cL bC;rw[mD]
 let a:∀ (r:Row),(∀ p∈r,p.1<=p.2)->∀ t:Row,r.foldl dZ t=r.foldl (λc b=>(gx b).foldl (λt n=>jj t n (n+1)) c) t:=by
  intro r
  induction r with
  | nil=>intro _ t;rfl
  | cons p r b =>
   intro h t;rw[jV,jV,NQ t p (h p (rY ..))];exact b (λq b=>h q (kY _ b)) _
 exact a r h []
def wR(t:Row)(s e:Int):↑(jj t s e)<=↑t+1:=by
 rcases l6 t with rfl|⟨u,q,rfl⟩
 ·rw[jA];simp
 ·by_cases a:q.2=s
  ·rw[kj,jB u a];simp
  ·rw[kj,jC u a];simp
def foldl_take_succ{a b:Type}(f:b->a->b)(l:List a)(c:b)(i:Nat)(x:a)(h:l[i]?=⇑x):(l.take (i+1)).foldl f c=f ((l.take i).foldl f c) x:=by
 rw[List.take_add_one,h,List.foldl_append];rfl
end _gI
namespace _gI
def je(r:Row):Int:=(r.map λp=>p.2-p.1).sum
theorem Q8:je []=0:=rfl
def Ex(p:Int × Int)(r:Row):je (p::r)=(p.2-p.1)+je r:=by simp[je]
def NR(r:Row)(p:Int × Int):je (r++[p])=je r+(p.2-p.1):=by simp[je]
def yT(r q:Row):je (r++q)=je r+je q:=by simp[je]
def take_snoc{a:Type}{l:List a}{i:Nat}{x:a}(h:l[i]?=⇑x):l.take (i+1)=l.take i++[x]:=by rw[List.take_add_one,h];rfl
end _gI
namespace _gI
def jD(s:Int)(n:Nat):run s (n+1)=run s n++[s+n]:=by
 induction n generalizing s with
 | zero=>simp[run]
 | succ n a =>
  rw[run,a,run];have:s+1+(n:Int)=s+((n+1:Nat):Int):=by lia
  rw[this];rfl
def BE{a n:Int}(h:a<=n):gx (a,n+1)=gx (a,n)++[n]:=by
 unfold gx;let e:((a,n+1).2-(a,n+1).1).toNat=((a,n).2-(a,n).1).toNat+1:=by simp only;lia
 rw[e,jD];have:a+((((a,n).2-(a,n).1).toNat:Nat):Int)=n:=by simp only;lia
 simp only at this ⊢;rw[this]
def Ey(n:Int):gx (n,n+1)=[n]:=by
 have:=BE (a:=n) (n:=n) (Int.le_refl _);rw[this];let e:gx (n,n)=[]:=by unfold gx;simp[run]
 rw[e];rfl
def cQ(r q:Row):bC (r++q)=bC r++bC q:=by unfold bC;rw[List.flatMap_append]
def fC(p:Int × Int):bC [p]=gx p:=by simp[bC]
def Hr(t:Row)(n:Int)(h:∀ p∈t,p.1<=p.2):bC (jj t n (n+1))=bC t++[n]:=by
 rcases l6 t with rfl|⟨u,q,rfl⟩
 ·rw[jA,fC,Ey];rfl
 ·rw[kj]at h ⊢;by_cases a:q.2=n
  ·let⟨b,c⟩:=q;simp only at a;subst a;let d:b<=c:=h (b,c) (by simp);rw[jB u rfl,cQ,cQ,fC,fC,BE d,ko]
  ·rw[jC u a,cQ,fC,Ey]
def JK(t:Row)(n:Int)(h:∀ p∈t,p.1<=p.2):∀ p∈jj t n (n+1),p.1<=p.2:=by
 rcases l6 t with rfl|⟨u,q,rfl⟩
 ·rw[jA];intro p a;simp at a;subst a;show n<=n+1;lia
 ·rw[kj]at h ⊢;by_cases b:q.2=n
  ·rw[jB u b];intro p a;rcases List.mem_append.mp a with z|z
   ·exact h p (n9 _ z)
   ·simp at z;subst z;have:=h q (by simp);show q.1<=n+1;lia
  ·rw[jC u b];intro p a;rcases List.mem_append.mp a with z|z
   ·exact h p z
   ·simp at z;subst z;show n<=n+1;lia
def eT(a:Wp):bC (cL a)=a:=by
 let b:∀ (a:Wp) (t:Row),(∀ p∈t,p.1<=p.2)->bC (a.foldl (λt n=>jj t n (n+1)) t)=bC t++a:=by
  intro a
  induction a with
  | nil=>intro t _;simp
  | cons n a c =>
   intro t h;rw[jV,c _ (JK t n h),Hr t n h,ko];rfl
 have:=b a [] (λp c=>by cases c);simpa [cL,bC] using this
def kB(a:Wp):∀ p∈cL a,p.1<=p.2:=by
 let b:∀ (a:Wp) (t:Row),(∀ p∈t,p.1<=p.2)->∀ p∈a.foldl (λt n=>jj t n (n+1)) t,p.1<=p.2:=by
  intro a
  induction a with
  | nil=>intro t h;exact h
  | cons n a c=>intro t h;exact c _ (JK t n h)
 exact b a [] (λp c=>by cases c)
end _gI
namespace _gI
def wV(p:Int × Int)(h:p.1<=p.2):(↑(gx p):Int)=p.2-p.1:=by
 unfold gx;rw[dG];lia
theorem qE:∀ (r:Row),(∀ p∈r,p.1<=p.2)->(↑(bC r):Int)=je r
 | [],_=>rfl
 | p::r,h=>by
  let a:=qE r λq a=>h q (kY _ a);have a:=wV p (h p (rY ..));have e:bC (p::r)=gx p++bC r:=rfl;rw[e,dh,Ex];lia
end _gI
namespace _gI
open _L2 _cN
structure cy(K:Frag)(mg:Ya)(x:Str)(st:Stmt)(ps:UV)(a:Addr)(d:FuncData):Prop where
 F:Ny K x x st a d
 b:Binds K d ps []
 m:mg x=⇑↥a
section
variable {X:Cx}
theorem aC{x:Str}{h:Stmt}{b:UV}{f:Addr}{j k:Nat}{c:Sp}{e:Expr}{a:List Expr}{t:TA}{p g:Pos}(d:cy X.K X.mg x h b f i)(G:bq X.prog X.w X.K X.mg X.zt cR k f i b c)(l:jh j X.A)
  (m:PA X (e::a) t) (n:k<=j:=by first|decide|lia) (o:Gl X x:=by rfl) (q:(x == ("__debug__":Str))=false:=by decide) (r:starEach (e::a) X.env=(false,eval e X.env)::starEach a X.env:=by rfl)
  (u:(backTo g (starEach a X.env)).any (·.1)=false:=by rfl):PE X (.Call (.Name x p) (e::a) [] g) (Jp c [] E0 t) :=
 Jr G (l.mono n) o d.m d.F.kp d.b .nil bR m q r u
theorem vo{b:Stmt}{t c:TS}(h:PS X b t)(d:∀ D a H,c D a H->t D a H):PS X b c:=λe s a H D I q=>h e s a H D I (d D a H q)
end
def cF(l:Addr)(H b:Hp):Prop:=∀ a o,H a=⇑o->a≠l->b a=⇑o
theorem aJ.keep{l:Addr}{H a:Hp}(s:aJ H a):cF l H a:=λb o e _=>s b o e
theorem cF.refl(l:Addr)(H:Hp):cF l H H:=λ_ _ e _=>e
theorem cF.trans{l:Addr}{H a b:Hp}(d:cF l H a)(e:cF l a b):cF l H b:=λc o f n=>e c o (d c o f n) n
theorem aG(l:Addr)(H:Hp)(o:HO):cF l H (aL H l o):=λa u e n=>by rw[aK n];exact e
theorem bP{l:Addr}{H a b:Hp}(h:H l=none)(d:aJ H a)(f:cF l a b):aJ H b:=λc o e=>f c o (d c o e) (aA e h)
theorem ao{H:Hp}{p:Addr}(h:H p=none)(o:HO):aJ H (aL H p o):=λb u q=>by rw[aK (aA q h)];exact q
def iS{l a:Addr}{H b:Hp}(k:cF l H b)(n:a≠l)(h:b a=none):H a=none:=by
 cases q:H a with
 | none=>rfl
 | some o=>rw[k a o q n]at h;cases h
def dm(H:Hp)(l c:Addr):Prop:=c≠l/\∃ (a:Wp) (i d r:Int),H l=⇑(.lst [↥c,.int i,.int d,.int r])/\H c=⇑(.lst (a.map V.int))/\0<=i/\0<=r/\r<2147483647
def dm.same{H a:Hp}{l c:Addr}(s:dm H l c)(k:aJ H a):dm a l c:=by
 let⟨n,b,i,d,r,e,f,g⟩:=s;exact⟨n,b,i,d,r,k _ _ e,k _ _ f,g⟩
def dm.keep{H a:Hp}{l c m:Addr}(s:dm H l c)(k:cF m H a)(b:l≠m)(d:c≠m):dm a l c:=by
 let⟨n,e,i,f,r,g,h,j⟩:=s;exact⟨n,e,i,f,r,k _ _ g b,k _ _ h d,j⟩
def dm.ne{H:Hp}{l c a:Addr}(s:dm H l c)(h:H a=none):l≠a/\c≠a:=by
 let⟨n,e,i,f,r,b,d,g⟩:=s;exact⟨aA b h,aA d h⟩
def dm.has{H:Hp}{l c:Addr}(s:dm H l c):(∃ o,H l=⇑o)/\∃ o,H c=⇑o:=by
 let⟨n,d,i,e,r,a,b,f⟩:=s;exact⟨⟨_,a⟩,⟨_,b⟩⟩
theorem Zm{a b c d:V}:om [a,b,c,d] 0=⇑a:=rfl
theorem VM{a b c d:V}:om [a,b,c,d] 1=⇑b:=rfl
theorem Q9{a b c d:V}:om [a,b,c,d] 2=⇑c:=rfl
theorem Zn{a b c d:V}:om [a,b,c,d] 3=⇑d:=rfl
theorem Hs{a b:V}:om [a,b] 0=⇑a:=rfl
theorem Ht{a b:V}:om [a,b] 1=⇑b:=rfl
class inductive sM
 | mk (l d:Addr) (b:Int) (_:vs=[↥l,.int b]) (_:dm H l d) (_:0<b) (_:b<10^70) (_ :
 ∀ (v:Int) (c:Hp),0<=v->v<b->dm c l d->(∀ a,a≠l->c a=H a)->Q (.int v) c):sM vs H Q E
class inductive Ug(K:Frag)
 | mk (a:Addr) (d:Wp) (_:vs=[↥a]) (_:bL K H a (d.map V.int)) (_ :
 ∀ (l c:Addr) (b:Hp),dm b l c->aJ H b->H l=none->H c=none->Q ↥l b)
def m9:V->Bool
 | .int _ | .bl _ | .str _ | .gc=>true
 | _=>false
def NS(k:Bool)(H:Hp)(a:Addr)(b:List V):Prop:=match k with
 | true=>H a=⇑(.lst b)
 | false=>H a=⇑(.tup b)
def NS.same{k:Bool}{H a:Hp}{b:Addr}{c:List V}(h:NS k H b c)(s:aJ H a):NS k a b c:=by
 cases k
 ·exact s _ _ h
 ·exact s _ _ h
def NS.sq{K:Frag}{k:Bool}{H:Hp}{a:Addr}{b:List V}(h:NS k H a b):JI K k H a b:=by
 cases k
 ·exact dO.of h
 ·exact bL.of h
def Eqv(H:Hp):Nat->V->V->Prop
 | 0,_,_=>False
 | n+1,x,y=>(m9 x=true/\x=y)\/∃ (k:Bool) (c d:Addr) (a b:List V),x=↥c/\y=↥d/\NS k H c a/\NS k H d b/\↑a=↑b/\
   ∀ (i:Nat) (u v:V),a[i]?=⇑u->b[i]?=⇑v->Eqv H n u v
theorem Eqv.same{H a:Hp}(s:aJ H a):∀ {n:Nat} {x y:V},Eqv H n x y->Eqv a n x y
 | 0,_,_,h=>h
 | n+1,x,y,h=>by
  rcases h with h|⟨k,b,c,d,e,f,g,i,j,l,m⟩
  ·exact .inl h
  ·exact .inr ⟨k,b,c,d,e,f,g,i.same s,j.same s,l,λi u v b c=>Eqv.same s (m i u v b c)⟩
theorem Eqv.int{H:Hp}{n:Nat}(i:Int):Eqv H (n+1) (.int i) (.int i):=.inl ⟨V⟩
def yU(n:Nat):Sp:=λa H Q _=>∃ x y,a=[x,y]/\Eqv H n x y/\∀ a,aJ H a->Q (.bl true) a
class inductive JL
 | mk (i:Int) (_:vs=[.int i]) (_:Q (.bl true) H)
section
variable (K:Frag)
def Zo:kitOne K (.type "bool") (.type "bool")=⇑true:=by rfl
def Zp:kitOne K (.type "int") (.type "bool")=⇑false:=by kernel_rfl
def Zq:kitOne K (.type "int") (.type "int")=⇑true:=by rfl
def nf:kitOne K (.type "str") (.type "bool")=⇑false:=by kernel_rfl
def no:kitOne K (.type "str") (.type "int")=⇑false:=by kernel_rfl
def Zr:kitOne K (.type "str") (.type "str")=⇑true:=by rfl
def np:kitOne K (.type "list") (.type "bool")=⇑false:=by kernel_rfl
def nq:kitOne K (.type "list") (.type "int")=⇑false:=by kernel_rfl
def nw:kitOne K (.type "list") (.type "str")=⇑false:=by kernel_rfl
def Zs:kitOne K (.type "list") (.type "list")=⇑true:=by rfl
def k_lt:kitOne K (.type "list") (.type "tuple")=⇑false:=by kernel_rfl
def nD:kitOne K (.type "tuple") (.type "bool")=⇑false:=by kernel_rfl
def nN:kitOne K (.type "tuple") (.type "int")=⇑false:=by kernel_rfl
def nU:kitOne K (.type "tuple") (.type "str")=⇑false:=by kernel_rfl
def n6:kitOne K (.type "tuple") (.type "list")=⇑false:=by kernel_rfl
def n7:kitOne K (.type "tuple") (.type "tuple")=⇑true:=by rfl
end
def X4(k:Bool):Value:=.type (if k then "list" else "tuple")
def NS.ty{K:Frag}{k:Bool}{H:Hp}{a:Addr}{b:List V}(h:NS k H a b):kq K H ↥a (X4 k):=by
 cases k
 ·exact kq.tup h
 ·exact kq.lst h
def n'(K:Frag)(k:Bool):kitOne K (X4 k) (.type "bool")=⇑false:=by cases k;exact nD K;exact np K
def oa(K:Frag)(k:Bool):kitOne K (X4 k) (.type "int")=⇑false:=by cases k;exact nN K;exact nq K
def oe(K:Frag)(k:Bool):kitOne K (X4 k) (.type "str")=⇑false:=by cases k;exact nU K;exact nw K
def Zt(K:Frag)(k:Bool):kitOne K (X4 k) (.type "list")=⇑k:=by cases k;exact n6 K;exact Zs K
def Zu(K:Frag)(k:Bool):kitOne K (X4 k) (.type "tuple")=⇑(!k):=by cases k;exact n7 K;exact k_lt K
def j3(H:Hp)(a:Addr)(p:Int × Int):Prop:=H a=⇑(.tup [.int p.1,.int p.2])
abbrev bG(H:Hp):List Addr->Row->Prop:=Paired (j3 H)
inductive bV(H:Hp)(r:Addr)(row:Row):Prop
 | mk (a:WF) (_:H r=⇑(.lst (a.map V.ref))) (_:bG H a row)
theorem bG.tups{H b:Hp}{c:WF}{d:Row}(h:bG H c d)(t:∀ a e,H a=⇑(.tup e)->b a=⇑(.tup e)):bG b c d:=Paired.Cs h λa p f=>t a _ f
theorem bG.same{H a:Hp}{b:WF}{c:Row}(h:bG H b c)(s:aJ H a):bG a b c:=h.tups λd f e=>s d _ e
def bV.same{H a:Hp}{r:Addr}{b:Row}(h:bV H r b)(s:aJ H a):bV a r b:=by
 let⟨c,d,e⟩:=h;exact⟨c,s _ _ d,e.same s⟩
theorem bG.keep{H a:Hp}{b:WF}{c:Row}{l:Addr}{d:List V}(h:bG H b c)(f:H l=⇑(.lst d))(s:cF l H a):bG a b c :=
 h.tups λg i e=>s g _ e (cS e f)
def bV.keep{H a:Hp}{r:Addr}{b:Row}{l:Addr}{c:List V}(h:bV H r b)(d:H l=⇑(.lst c))(n:r≠l)(s:cF l H a):bV a r b:=by
 let⟨e,f,g⟩:=h;exact⟨e,s _ _ f n,g.keep d s⟩
theorem bG.get{H:Hp}:∀ {b:WF} {row:Row} {i:Nat} {a:Addr},bG H b row->b[i]?=⇑a->∃ p,row[i]?=⇑p/\j3 H a p
 | _,_,_,_,.nil,e=>by simp at e
 | _,_,0,_,.cons r _,e=>by simp at e;subst e;exact⟨Y,r⟩
 | _,_,i+1,a,.cons _ t,e=>by
  let⟨p,c,d⟩:=bG.get (i:=i) (a:=a) t (by simpa using e);exact⟨p,by simpa using c,d⟩
def bG.snoc{H:Hp}{a:WF}{b:Row}{c:Addr}{p:Int × Int}(h:bG H a b)(e:j3 H c p):bG H (a++[c]) (b++[p]):=by
 induction h with
 | nil=>exact .cons e .nil
 | cons r _ d=>exact .cons r d
theorem bG.split{H:Hp}:∀ {as:WF} {row:Row} {p:Int × Int},bG H as (row++[p])->∃ a b,as=a++[b]/\bG H a row/\j3 H b p
 | as,[],p,h=>by
  cases h with
  | cons r t=>cases t;exact⟨[],Y,.nil,r⟩
 | as,q::row,p,h=>by
  cases h with
  | cons r t =>
   let⟨a,b,rfl,c,d⟩:=bG.split (row:=row) (p:=p) t;exact⟨_::a,b,1,.cons r c,d⟩
theorem bG.len{H:Hp}{a:WF}{b:Row}(h:bG H a b):↑a=↑b:=Paired.length h
theorem gE{a:Type}(b:List a)(v:a):om (b++[v]) (-1)=⇑v:=Nh b v
def Ez(n:Nat):Jw (n+1) (-1)=⇑n:=by
 unfold Jw;rw[if_neg (by decide),if_pos ∅];congr 1;lia
def yV{b:Type}(a:List b)(d c:b):(a++[d]).set ↑a c=a++[c]:=by
 simp
def yW(lo:Int)(n:Nat):BD lo n=(run lo n).map V.int:=by
 unfold BD
 induction n generalizing lo with
 | zero=>rfl
 | succ n a =>
  rw[List.range_succ_eq_map,jv,List.map_map,run,jv,← a (lo+1)];congr 1
  ·simp
  ·apply List.map_congr_left;intro i _;simp only[Function.comp,Nat.succ_eq_add_one];congr 1;lia
class inductive Rc(lim:Nat)
 | mk (r:Addr) (a:Row) (_:vs=[↥r]) (_:bV H r a) (_:(∀ p∈a,0<=p.1/\p.1<=p.2/\p.2<2^62)) (_:↑(bC a)<=1000000) (_:↑a<=lim) (_ :
 ∀ (n:Addr) (b:Hp),b n=⇑(.lst ((bC a).map V.int))->aJ H b->H n=none->Q ↥n b)
class inductive Rf
 | mk (r:Addr) (a:Row) (_:vs=[↥r]) (_:bV H r a) (_:↑a<=1000000) (_ :
 ∀ (q:Addr) (b:Hp),bV b q (cD a)->aJ H b->H q=none->Q ↥q b)
theorem aN{n:Nat}(h:n<=1000001):n<sizeLine:=Nat.lt_of_le_of_lt h (by decide)
end _gI
namespace _gI
open _L2 _cN
def VN:TS:=λD a H=>∃ (l c:Addr) (d:Int),a=[⇑↥l,⇑(.int d),none,none]/\dm H l c/\
 ∀ (e:Option V) (a:Hp),dm a l c->(∀ b,b≠l->a b=H b)->D.nx [⇑↥l,⇑(.int d),e,none] a
def VO:TS:=λD a H=>∃ (l c:Addr) (d:Int),a=[⇑↥l,⇑(.int d),⇑(.int 7),none]/\dm H l c/\
 ∀ (e:Int) (a:Hp),dm a l c->(∀ b,b≠l->a b=H b)->D.nx [⇑↥l,⇑(.int d),⇑(.int e),none] a
def Rg{a:Wp}{i:Int}(c:0<=i)(d:i<(↑a:Int)):∃ v:Int,om (a.map V.int) i=⇑(.int v):=by
 let b:i.toNat<↑a:=by lia
 exists a[i.toNat]
 let q:om (a.map V.int) ((i.toNat:Nat):Int)=⇑(.int a[i.toNat]):=cP (by rw[fK,mS b] <;> rfl)
 let b:((i.toNat:Nat):Int)=i:=by lia
 rw[b]at q;exact q
def NT(a:Wp)(lo b:Option Int):∃ c:List Int,ir (a.map V.int) lo b=c.map V.int:=by
 unfold ir;exists (a.drop (_HT.gH ↑(a.map V.int) 0 lo)).take (_HT.gH ↑(a.map V.int) ↑(a.map V.int) b-_HT.gH ↑(a.map V.int) 0 lo);rw[List.map_take,List.map_drop]
def tt{p:Prop} [Decidable p] {Q:V->Hp->Prop} {H:Hp} (a:p) (h:Q (.bl true) H):Q (.bl (decide p)) H:=by
 rw[decide_eq_true a];exact h
def NS.or{K:Frag}{k:Bool}{H:Hp}{a:Addr}{b:List V}(h:NS k H a b):bL K H a b\/dO K H a b:=by
 cases k
 ·exact .inr (dO.of h)
 ·exact .inl (bL.of h)
theorem bN{l:Addr}{H b:Hp}(k:∀ a,a≠l->b a=H a):cF l H b:=λa o e n=>by rw[k a n];exact e
end _gI
namespace _gI
open _L2 _cN
def NU{H:Hp}{p q:Addr}{b:Wp}(h:H p=⇑(.lst (b.map V.int)))(g:H q=⇑(.lst (b.map V.int)))(n:Nat):Eqv H (n+2) ↥p ↥q:=by
 refine .inr ⟨true,p,q,Z,h,g,1,λi u v a c=>?_⟩;rw[a]at c;cases c;rw[fK]at a;let⟨d,_,rfl⟩:=Option.map_eq_some_iff.mp a;exact Eqv.int _
def dm.lst{H:Hp}{l c:Addr}(s:dm H l c):∃ a,H l=⇑(.lst a):=by
 let⟨n,d,i,e,r,b,_⟩:=s;exact⟨_,b⟩
end _gI
namespace _cN
open Spec Rows _L2
section
variable {prog:Program} {w:World} {A:Around} {R:X2} {s:Shared}
def qF(b:List Expr)(a:Env):Sem Bool:=forIn b true λc r=>if r=true then do let ok ← isTrue c a (eval c a);pure (ForInStep.yield ok) else pure (ForInStep.yield r)
theorem La{i:Expr}{j:Scope}{c d:Value}{b:Env}(I:Nat->Shared->Prop)
  (z:∀ n s,I n s->wpAny (model prog w) A (pyNext c) (λr e=>match r with
   | none=>R (.ok .next) e
   | some v=>wpAny (model prog w) A (letOwnedTupleGo f c v) (λ_ k=>wpAny (model prog w) A (assign f b v) (λ_ l =>
     wpAny (model prog w) A (qF o b) (λg h =>
      if g=true then wpAny (model prog w) A (eval p b) (λx q=>wpAny (model prog w) A (call (.builtin "list.append") [d,x]) (λ_ t=>∃ m,m<n/\I m t) (λ_ _=>False) q) (λ_ _=>False) h
      else ∃ m,m<n/\I m h) (λ_ _=>False) l) (λ_ _=>False) k) (λ_ _=>False) e) (λ_ _=>False) s)
  (n:Nat) (B:I n s):codeAny (model prog w) A (.compLoop (.ListComp p [⟨f,i,o,0⟩] j C) 0 c d b) R s:=by
 refine codeAny_loop rfl I (λn s D=>?_) n B;show wpAny _ A ((compTurn (.ListComp p [⟨f,i,o,0⟩] j C) 0 c d b).onRaise (λx=>do noteFrame x b;theTreesLotGoes x)) _ _ s;refine wpAny_noted ?_;rw[compTurn_list];refine wpAny_bind (wpAny_standAt (wpAny_bind (wpAny_mono (z n s D) (λr e u=>?_) λ_ _ a=>a.elim)))
 cases r with
 | none=>exact wpAny_pure u
 | some v =>
  refine wpAny_bind (wpAny_mono u (λ_ k u=>wpAny_bind (wpAny_mono u (λ_ l u=>wpAny_bind (wpAny_mono u (λg h y=>?_) λ_ _ a=>a.elim)) λ_ _ a=>a.elim)) λ_ _ a=>a.elim)
  cases g with
  | false=>exact wpAny_pure ⟨1,y⟩
  | true=>exact wpAny_bind (wpAny_bind (wpAny_mono y (λx q u=>wpAny_bind (wpAny_mono u (λ_ t u=>wpAny_pure (wpAny_pure ⟨1,u⟩)) λ_ _ a=>a.elim)) λ_ _ a=>a.elim))
end
section
variable {X:Cx} {N:UV} {scope:Scope}
def Lb(X:Cx)(c:List Expr)(t:TT):Prop :=
 ∀ (b:List (Addr × Obj)) (s:Shared) (a:_L2.St) (H:Hp) (Q:Bool->Hp->Prop),Inv X b a H s->t a H Q->wpAny (model X.prog X.w) X.A (qF c X.env) (TP X b a Q) X.xe s
def Lc:TT:=λ_ H Q=>Q true H
theorem gQ:Lb X [] Lc:=λa s b H Q I h=>wpAny_tests_nil ⟨H,I,h⟩
theorem xQ{c:Expr}{t:TT}(h:PT X c t):Lb X [c] t:=λa s b H Q I q=>wpAny_tests_one (h a s b H Q I q)
end
end _cN
namespace _cN
open Spec Rows _L2
theorem Ld{P:Program}{B:World}{K:Frag}(b:Addr)(lo:Int)(n:Nat):GX P B K M (Jj lo n) [b] b (λi h=>IsLongIter h b (lo+(i:Nat)*1) ((n:Int)-(i:Nat)) 1) where
 mem:=by simp
 obj:=λi h a c d=>by
  let e:c=b:=by simpa using d
  subst e
  exact⟨_,a,λw z=>by
   let f:Data.fields _=Data.cell w:=z
   cases f⟩
 keep:=λi h f a C=>C b (by simp) _ a
 item:=by
  intro X j k l m i x s y H E I g a o;subst j k l;let⟨p,q,D,r,t,u⟩:=g b (by simp);let W:=Walks.longrange (prog:=X.prog) (w:=X.w) (I.ok.hd m) b lo 1 n;refine W.item i s _ _ o a λw f z F A G=>?_;let⟨J,rfl⟩:=F;have L:Inv X x y H { s with heap:=f,toks:=z }:=I.turned (λc v d e=>G c v (by simpa using d) e) p q r t u;refine⟨Y,Ei (s:={ s with heap:=f,toks:=z }) (n:="longrange_iterator") A rfl rfl (by decide) ⟨.int (lo+i),H,L,⟨J,?_⟩,⟨V⟩,A,λc d=>(g c d).1⟩⟩;rw[Int.mul_one]
 done:=by
  intro X j k l m i x s y H E I g a o;subst j k l;let⟨p,q,D,r,t,u⟩:=g b (by simp);exact wpAny_pyNext_long_end (I.ok.hd m) a (by have:n<=i:=o;lia) λf f=>⟨1,I.turned (t':=s.toks) (λc v d e=>f c v d e) p q r t u⟩
 self:=λ_ _ _ _ _ a h=>wpAny_pyIter_longiter a h
section
variable {X:Cx} {tg:Expr}
theorem Lf{g:_L2.St}{H:Hp}{s:Shared}{i:It->Hp->Prop}{E:ZB}{lo a:Int}{t u v:Tok}{c:Nat}(I:Inv X h g H s)
  (q:i (Jj lo (a-lo).toNat) H):wpAny (model X.prog X.w) X.A (pyIter ↥s.heap.objs.size) (eP X h g tg i) E { s with heap:=s.heap.push { cls:=.type "range",data:=.fields (List.toArray [.int lo t,.int a u,.int 1 v]) },toks:=c }:=by
 let d:Inv X h g H { s with heap:=s.heap.push { cls:=.type "range",data:=.fields (List.toArray [.int lo t,.int a u,.int 1 v]) },toks:=c }:=I.kept λb o e=>Heap.get?_push_of_some _ e;have j:lo+((0:Nat):Int)*1=lo:=by simp
 let k:(((a-lo).toNat:Nat):Int)-((0:Nat):Int)=Builtin.Range.rangeSize lo a 1:=by rw[rangeSize_one];split <;> lia
 let l:∀ b∈[(s.heap.push { cls:=.type "range",data:=.fields (List.toArray [.int lo t,.int a u,.int 1 v]) }).objs.size],oj X h H b:=λb f=>by
  let e:b=(s.heap.push { cls:=.type "range",data:=.fields (List.toArray [.int lo t,.int a u,.int 1 v]) }).objs.size:=by simpa using f
  subst e;exact d.Kz (fH _) (d.hok.fresh (fH _))
 cases f:Builtin.Range.small lo a 1 with
 | true =>
  refine wpAny_pyIter_range (IsRange.new ..) f ?_;refine⟨_,[(s.heap.push { cls:=.type "range",data:=.fields (List.toArray [.int lo t,.int a u,.int 1 v]) }).objs.size],E,H,1,d.kept (t':=c) λb o e=>Heap.get?_push_of_some _ e,yd _ lo (a-lo).toNat,?_,l,q⟩;show IsRangeIter _ _ (lo+((0:Nat):Int)*1) ((((a-lo).toNat:Nat):Int)-((0:Nat):Int)) 1;rw[j,k];exact Heap.get?_push_size _ rfl
 | false =>
  refine wpAny_pyIter_longrange (IsRange.new ..) f ?_;refine⟨_,[(s.heap.push { cls:=.type "range",data:=.fields (List.toArray [.int lo t,.int a u,.int 1 v]) }).objs.size],E,H,1,d.kept (t':=c) λb o e=>Heap.get?_push_of_some _ e,Ld _ lo (a-lo).toNat,?_,l,q⟩;show IsLongIter _ _ (lo+((0:Nat):Int)*1) ((((a-lo).toNat:Nat):Int)-((0:Nat):Int)) 1;rw[j,k];exact Heap.get?_push_size _ rfl
def Zv(a:TA):TI:=fun b H R=>a b H λb c=>∃ i j:Int,b=[.int i,.int j]/\R (Jj i (j-i).toNat) c
theorem Lg{a b:Expr}{c:TA}{p d:Pos}(f:Gl X "range")(g:X.mg "range"=none)(h:PA X [a,b] c)(i:starEach [a,b] X.env=[(false,eval a X.env),(false,eval b X.env)]:=by rfl)(e:starEach [b] X.env=[(false,eval b X.env)]:=by rfl) :
  PI X tg (.Call (.Name "range" p) [a,b] [] d) (Zv c):=by
 intro j s k H R I l;refine Call_ (vc I f g boot_range (PyProof.Rows.callWith_type1 (dN (h d j s k H _ I l) λj k ⟨l,t,m,n,o⟩=>?_) (by rw[i,e]) (by rw[e];rfl)));let⟨j,k,q,r⟩:=o;subst q;let⟨u,v,rfl,⟨w,rfl⟩,⟨x,rfl⟩⟩:=n.two;exact call_range_2 (Lf m r)
end
end _cN
namespace _cN
open Spec Rows _L2
section
variable {prog:Program} {w:World} {A:Around} {R:X2} {s:Shared}
theorem Rh(d h i b e:Expr)(j f:List Expr)(k:Scope)(l:Pos)(c g:Value)(a:Env) :
  compTurn (.ListComp d [⟨h,i,j,0⟩,⟨b,e,f,0⟩] k l) 1 c g a=(do
   standAt e.pos
   match ← pyNext c with
   | none=>pure (.done .next)
   | some v =>
    letOwnedTupleGo b c v
    assign b a v
    let ok ← qF f a
    if ok then (do let _ ← call (.builtin "list.append") [g,← eval d a])
    again (.compLoop (.ListComp d [⟨h,i,j,0⟩,⟨b,e,f,0⟩] k l) 1 c g a)):=by rfl
theorem NV(g c d h b:Expr)(e i:List Expr)(j:Scope)(k:Pos)(f l:Value)(a:Env) :
  compTurn (.ListComp g [⟨c,d,e,0⟩,⟨h,b,i,0⟩] j k) 0 f l a=(do
   standAt d.pos
   match ← pyNext f with
   | none=>pure (.done .next)
   | some v =>
    letOwnedTupleGo c f v
    assign c a v
    let ok ← qF e a
    if ok then
     let x ← eval b a
     standAt b.pos
     let x ← foldedSetIterable b a x
     let _ ← runOwn (.compStart (.ListComp g [⟨c,d,e,0⟩,⟨h,b,i,0⟩] j k) 1 (← holding [x] (pyIter x)) l a) a
    again (.compLoop (.ListComp g [⟨c,d,e,0⟩,⟨h,b,i,0⟩] j k) 0 f l a)):=by rfl
theorem VP{i:Expr}{j:Scope}{c d:Value}{b:Env}(I:Nat->Shared->Prop)
  (z:∀ n s,I n s->wpAny (model prog w) A (pyNext c) (λr e=>match r with
   | none=>R (.ok .next) e
   | some v=>wpAny (model prog w) A (letOwnedTupleGo f c v) (λ_ k=>wpAny (model prog w) A (assign f b v) (λ_ l =>
     wpAny (model prog w) A (qF o b) (λg h =>
      if g=true then wpAny (model prog w) A (eval p b) (λx q=>wpAny (model prog w) A (call (.builtin "list.append") [d,x]) (λ_ t=>∃ m,m<n/\I m t) (λ_ _=>False) q) (λ_ _=>False) h
      else ∃ m,m<n/\I m h) (λ_ _=>False) l) (λ_ _=>False) k) (λ_ _=>False) e) (λ_ _=>False) s)
  (n:Nat) (B:I n s):codeAny (model prog w) A (.compLoop (.ListComp p [⟨C,i,D,0⟩,⟨f,G,o,0⟩] j H) 1 c d b) R s:=by
 refine codeAny_loop rfl I (λn s F=>?_) n B;show wpAny _ A ((compTurn (.ListComp p [⟨C,i,D,0⟩,⟨f,G,o,0⟩] j H) 1 c d b).onRaise (λx=>do noteFrame x b;theTreesLotGoes x)) _ _ s;refine wpAny_noted ?_;rw[Rh];refine wpAny_bind (wpAny_standAt (wpAny_bind (wpAny_mono (z n s F) (λr e u=>?_) λ_ _ a=>a.elim)))
 cases r with
 | none=>exact wpAny_pure u
 | some v =>
  refine wpAny_bind (wpAny_mono u (λ_ k u=>wpAny_bind (wpAny_mono u (λ_ l u=>wpAny_bind (wpAny_mono u (λg h y=>?_) λ_ _ a=>a.elim)) λ_ _ a=>a.elim)) λ_ _ a=>a.elim)
  cases g with
  | false=>exact wpAny_pure ⟨1,y⟩
  | true=>exact wpAny_bind (wpAny_bind (wpAny_mono y (λx q u=>wpAny_bind (wpAny_mono u (λ_ t u=>wpAny_pure (wpAny_pure ⟨1,u⟩)) λ_ _ a=>a.elim)) λ_ _ a=>a.elim))
theorem Ri{b:Expr}{c:Scope}{d e:Value}{a:Env}
  (p:codeAny (model prog w) A (.compLoop (.ListComp g [⟨h,b,i,0⟩,⟨j,f,k,0⟩] c l) 1 d e a) R s)
  (q:wpAny (model prog w) A (pyIter d) (λm n=>codeAny (model prog w) A (.compLoop (.ListComp g [⟨h,b,i,0⟩,⟨j,f,k,0⟩] c l) 1 m e a) R n) (λ_ _=>False) s) :
  codeAny (model prog w) A (.compStart (.ListComp g [⟨h,b,i,0⟩,⟨j,f,k,0⟩] c l) 1 d e a) R s:=by
 refine codeAny_of_tree ?_;show wpAny _ _ ((compStart (.ListComp g [⟨h,b,i,0⟩,⟨j,f,k,0⟩] c l) 1 d e a).onRaise (λx=>do noteFrame x a;standAt theWindowsPlace)) _ _ s;refine wpAny_notedAt ?_;unfold compStart;show wpAny _ _ (ask >>= _) _ _ s;refine wpAny_bind (wpAny_askSetting (wpAny_ite ?_));split
 ·first
   | exact wpAny_bind (wpAny_pure (wpAny_pure (And.intro rfl p)))
   | exact wpAny_pure (And.intro rfl p)
 ·first
   | exact wpAny_bind (wpAny_rule (wpAny_bind (wpAny_standAt (wpAny_bind (wpAny_mono q (λm n o=>wpAny_pure (And.intro rfl o)) λ_ _ x=>x.elim)))))
   | (refine wpAny_bind (wpAny_rule ?_);show wpAny _ _ (standAt f.pos >>= _) _ _ s;exact wpAny_bind (wpAny_standAt (wpAny_bind (wpAny_mono q (λm n o=>wpAny_pure (And.intro rfl o)) λ_ _ x=>x.elim))))
theorem Rk{f:Expr}{g:Scope}{c h:Value}{b:Env}(I:Nat->Shared->Prop)
  (J:∀ x,foldedSetIterable d b x=pure x)
  (L:∀ n s,I n s->wpAny (model prog w) A (pyNext c) (λr i=>match r with
   | none=>R (.ok .next) i
   | some v=>wpAny (model prog w) A (letOwnedTupleGo e c v) (λ_ o=>wpAny (model prog w) A (assign e b v) (λ_ p =>
     wpAny (model prog w) A (qF j b) (λk l =>
      if k=true then wpAny (model prog w) A (eval d b) (λx q=>wpAny (model prog w) A (pyIter x) (λt u =>
       codeAny (model prog w) A (.compStart (.ListComp y [⟨e,f,j,0⟩,⟨z,d,B,0⟩] g C) 1 t h b) (λr D=>(∃ G,r=.ok G)/\∃ m,m<n/\I m D) u) (λ_ _=>False) q) (λ_ _=>False) l
      else ∃ m,m<n/\I m l) (λ_ _=>False) p) (λ_ _=>False) o) (λ_ _=>False) i) (λ_ _=>False) s)
  (n:Nat) (M:I n s):codeAny (model prog w) A (.compLoop (.ListComp y [⟨e,f,j,0⟩,⟨z,d,B,0⟩] g C) 0 c h b) R s:=by
 refine codeAny_loop rfl I (λn s N=>?_) n M;show wpAny _ A ((compTurn (.ListComp y [⟨e,f,j,0⟩,⟨z,d,B,0⟩] g C) 0 c h b).onRaise (λx=>do noteFrame x b;theTreesLotGoes x)) _ _ s;refine wpAny_noted ?_;rw[NV];refine wpAny_bind (wpAny_standAt (wpAny_bind (wpAny_mono (L n s N) (λr i F=>?_) λ_ _ a=>a.elim)))
 cases r with
 | none=>exact wpAny_pure F
 | some v =>
  refine wpAny_bind (wpAny_mono F (λ_ o F=>wpAny_bind (wpAny_mono F (λ_ p F=>wpAny_bind (wpAny_mono F (λk l H=>?_) λ_ _ a=>a.elim)) λ_ _ a=>a.elim)) λ_ _ a=>a.elim)
  cases k with
  | false=>exact wpAny_pure ⟨1,H⟩
  | true =>
   refine wpAny_bind (wpAny_mono H (λx q F=>wpAny_bind (wpAny_standAt (wpAny_bind (wpAny_of_eq (J x) (wpAny_bind (wpAny_holding (wpAny_mono F (λt u F=>?_) λ_ _ a=>a.elim))))))) λ_ _ a=>a.elim);refine wpAny_bind (wpAny_runOwn (codeAny_mono F λr D a=>?_));let⟨⟨G,O⟩,S⟩:=a;subst O;exact wpAny_pure ⟨1,S⟩
end
section
variable {X:Cx} {N:UV} {scope:Scope}
def Hu(g:TI)(d:Addr)(h:TG)(tt:TT)(j:TE):_L2.St->Hp->(_L2.St->Hp->Prop)->Prop:=fun a H b=>g a H λJ c =>
 ∃ W:Nat->Nat->_L2.St->Hp->Prop,(∃ m,W 0 m a c)/\∀ i m a H,W i m a H->
  (J.stop i H/\b a H)\/(J.go i H/\∃ c:_L2.St->Hp->Prop,(∀ e b,c e b->∃ f,f<m/\W (i+1) f e b)/\∀ x b,J.M0 i H x b->h x a b fun a e=>tt a e λb e =>
   if b=true then j a e λv f=>∃ b,f d=⇑(.lst b)/\↑b<sizeLine/\c a (aL f d (.lst (b++[v]))) else c a e)
theorem Lh{Y:Cx}{G:Expr}{I:TI}{J:TG}{L:TT}{M:TE}(O:Y.calm=true)(U:Y.xe=λ_ _=>False)(hi:PI Y t u I)(hg:PG Y t J)(ht:Lb Y jk L)(he:PE Y ki M)
  {d:List (Addr × Obj)} {s:Shared} {m:_L2.St} {H:Hp} {v:_L2.St->Hp->Prop} (ai:Inv Y d m H s) (ak:Hu I n J L M m H v) :
  wpAny (model Y.prog Y.w) Y.A (eval u Y.env) (λx am=>wpAny (model Y.prog Y.w) Y.A (pyIter x) (λZw an =>
   codeAny (model Y.prog Y.w) Y.A (.compStart (.ListComp ki [⟨tg,G,jO,0⟩,⟨t,u,jk,0⟩] scope aq) 1 Zw ↥n Y.env) (λr w=>(∃ y,r=.ok y)/\∃ c a,Inv Y d c a w/\v c a) an) (λ_ _=>False) am) (λ_ _=>False) s:=by
 let F:=hi d s m H _ ai ak;let z:=hg;let A:=ht;let B:=he;unfold PG at z;unfold Lb at A;unfold PE at B;rw[U]at F z A B;refine dN F λN s1 F=>dN F λYH s2 F=>?_;let⟨it,g,R,aw,H2,h,I2,T,S,X,W,⟨m0,w0⟩,mj⟩:=F;subst h;have C:∀ {a:Hp},(∀ b∈g,a b=none)->∀ b∈g,oj Y d a b:=λF b e=>⟨F b e,(X b e).2⟩
 let ab:codeAny (model Y.prog Y.w) Y.A (.compLoop (.ListComp ki [⟨tg,G,jO,0⟩,⟨t,u,jk,0⟩] scope aq) 1 ↥it ↥n Y.env) (λr w=>(∃ y,r=.ok y)/\∃ c a,Inv Y d c a w/\v c a) s2:=by
  refine VP (λo f=>∃ i c a,Inv Y d c a f/\R i f.heap/\(∀ b∈g,a b=none)/\W i o c a) ?_ m0 ⟨0,m,H2,I2,S,λb e=>(X b e).1,w0⟩;rintro o s6 ⟨i,j,l,I6,Uh,GH,w6⟩;rcases mj i o j l w6 with ⟨stop,qn⟩|⟨go,N2,hN,step⟩
  ·refine dN (T.done Y rfl rfl rfl O i d s6 j l _ I6 (C GH) Uh stop) λr s7 f=>?_;let⟨D,k⟩:=f;subst D;exact⟨⟨Y⟩,j,l,k,qn⟩
  ·refine dN (T.item Y rfl rfl rfl O i d s6 j l _ I6 (C GH) Uh go) λr s7 l=>?_;let⟨ar,D,h7⟩:=l;subst D;refine dN h7 λ_ F X=>?_;let⟨x,l,I8,r8,y8,D,Rl⟩:=X;have X:=I8.pinned (C Rl) (T.obj _ _ D);refine dN (z _ F j l x ar _ X r8 (step x l y8)) λ_ j l=>?_;let⟨p,z,C,X⟩:=l;refine dN (A _ j p z _ C X) λok VQ j=>?_;let⟨AD,Ui,q⟩:=j
   let ae:∀ {j:_L2.St} {l:Hp} {f:Shared},Inv Y (d++r9 g F.heap) j l f->N2 j l->∃ z,z<o/\∃ i c a,Inv Y d c a f/\R i f.heap/\(∀ b∈g,a b=none)/\W i z c a:=λ{j l f} k g=>by
    let⟨o,z,A⟩:=hN j l g;refine⟨o,z,i+1,j,l,k.nH,T.keep _ _ _ D λb e o h=>(k.pin (b,o) (nE _ (nE _ (iH e h)))).1,λb e=>?_,A⟩;let⟨o,h,g⟩:=T.obj _ _ D b e;exact (k.pin (b,o) (nE _ (nE _ (iH e h)))).2.1
   cases ok with
   | false =>
    rw[if_neg lT]at q;exact ae Ui q
   | true =>
    rw[if_pos rfl]at q;refine dN (B _ VQ p AD _ Ui q) λN f b=>?_;let⟨ag,e,g,as,xs,hx,hz,av⟩:=b;have ap:=bT _ f p e ↥n [ag] ↥n [N] (λ_ a=>N2 p a) g rfl (.cons as .nil) ⟨_,xs,ag,V,hx,hz,av⟩;rw[U]at ap;exact dN ap λ_ f ⟨_,g,b,_,e⟩=>ae b e
 exact Ri ab (T.self _ _ _ _ _ S ab)
theorem EA{lo:Int}{k:Nat}{t:TG}{tt:TT}{u:TE}{a:_L2.St}{H:Hp}{w:_L2.St->Hp->Prop}(c:Nat->_L2.St->Hp->Prop)(A:c 0 a H)
  (B:∀ i a H,i<k->c i a H->t (.int (lo+i)) a H fun b g=>tt b g λh e=>if h=true then u b e λv f=>∃ j,f l=⇑(.lst j)/\↑j<sizeLine/\c (i+1) b (aL f l (.lst (j++[v]))) else c (i+1) b e)
  (C:∀ a H,c k a H->w a H):∃ W:Nat->Nat->_L2.St->Hp->Prop,(∃ m,W 0 m a H)/\∀ i m a H,W i m a H->
  ((Jj lo k).stop i H/\w a H)\/((Jj lo k).go i H/\∃ n:_L2.St->Hp->Prop,(∀ o d,n o d->∃ z,z<m/\W (i+1) z o d)/\∀ x d,(Jj lo k).M0 i H x d->t x a d fun b g=>tt b g λh e =>
   if h=true then u b e λv f=>∃ p,f l=⇑(.lst p)/\↑p<sizeLine/\n b (aL f l (.lst (p++[v]))) else n b e):=by
 refine⟨λi m a H=>m=k-i/\i<=k/\c i a H,⟨k,by simp,Nat.zero_le _,A⟩,?_⟩;rintro i m a H ⟨rfl,D,s⟩;by_cases q:i<k
 ·refine .inr ⟨q,c (i+1),fun o d D=>⟨k-(i+1),by lia,1,q,D⟩,λx d y=>?_⟩;let⟨r,y⟩:=y;subst r y;exact B i a _ q s
 ·let r:i=k:=by lia
  subst r;exact .inl ⟨Nat.le_refl _,C a H s⟩
end
theorem Rm{i:Nat}{v:V}{a:_L2.St}{H:Hp}{Q:_L2.St->Bool->Hp->Prop}(h:Q (a.set i (⇑v)) true H):pV i v a H (fun b c=>Lc b c (Q b)):=h
theorem yes{a:_L2.St}{H:Hp}{Q:Bool->Hp->Prop}(h:Q true H):Lc a H Q:=h
end _cN
namespace _gI
open _L2 _cN
class inductive Rn
 | mk (r:Addr) (a:Row) (_:vs=[↥r]) (_:bV H r a) (_:(∀ p∈a,p.1<=p.2)) (_:↑(bC a)<=1000000) (_ :
 ∀ (n:Addr) (b:Hp),b n=⇑(.lst ((bC a).map V.int))->aJ H b->H n=none->Q ↥n b)
def yX{a:Row}{i:Nat}{p:Int × Int}(h:a[i]?=⇑p):bC (a.take (i+1))=bC (a.take i)++gx p:=by
 rw[take_snoc h,cQ,fC]
def rR(a:Row)(i:Nat):↑(bC (a.take i))<=↑(bC a):=by
 conv=>rhs;rw[← List.take_append_drop i a,cQ,dh]
 lia
theorem EB{e a:Hp}{q t:Addr}{b:WF}{g:Row}{c d:Int}(j:e q=none)(s:aJ e a)(h:a q=⇑(.lst (b.map V.ref)))(k:bG a b g)(i:a t=none) :
  (aL (aL a t (.tup [.int c,.int d])) q (.lst (b.map V.ref++[↥t]))) q=⇑(.lst ((b++[t]).map V.ref))/\
  bG (aL (aL a t (.tup [.int c,.int d])) q (.lst (b.map V.ref++[↥t]))) (b++[t]) (g++[(c,d)])/\aJ e (aL (aL a t (.tup [.int c,.int d])) q (.lst (b.map V.ref++[↥t]))):=by
 let l:q≠t:=aA h i;let f:aJ a (aL a t (.tup [.int c,.int d])):=ao i _;refine⟨by rw[af,gP];rfl,?_,bP j (s.trans f) (aG q _ _)⟩;refine bG.snoc ((k.same f).keep (f _ _ h) (aG q _ _)) ?_;show aL _ q _ t=_;rw[aK l.symm,af]
theorem turned{d b:Hp}{q t c:Addr}{a:WF}{f:Row}{st en:Int}(i:d q=none)(s:aJ d b)(g:b q=⇑(.lst (a.map V.ref++[↥c])))(j:bG b a f)(h:b t=none) :
  (aL (aL b t (.tup [.int st,.int en])) q (.lst ((a.map V.ref++[V.ref c]).set ↑a (V.ref t)))) q=⇑(.lst ((a++[t]).map V.ref))/\
  bG (aL (aL b t (.tup [.int st,.int en])) q (.lst ((a.map V.ref++[V.ref c]).set ↑a (V.ref t)))) (a++[t]) (f++[(st,en)])/\aJ d (aL (aL b t (.tup [.int st,.int en])) q (.lst ((a.map V.ref++[V.ref c]).set ↑a (V.ref t)))):=by
 let k:q≠t:=aA g h;let e:aJ b (aL b t (.tup [.int st,.int en])):=ao h _
 let l:(a.map V.ref++[V.ref c]).set ↑a (V.ref t)=(a++[t]).map V.ref:=by
  let z:=yV (a.map V.ref) (V.ref c) (V.ref t);rw[cC]at z;rw[z,gP];rfl
 rw[l];refine⟨af,?_,bP i (s.trans e) (aG q _ _)⟩;refine bG.snoc ((j.same e).keep (e _ _ g) (aG q _ _)) ?_;show aL _ q _ t=_;rw[aK k.symm,af]
def NZ(a:WF)(b:Addr):Jw ↑(a.map V.ref++[V.ref b]) (-1)=some ↑a:=by
 rw[dh,cC,nC];exact Ez _
theorem BF{f:Row->Int × Int->Row}{a:Row}{i:Nat}{p:Int × Int}(h:a[i]?=⇑p):(a.take (i+1)).foldl f []=f ((a.take i).foldl f []) p:=foldl_take_succ f a [] i p h
def EC(a:Row):∀ t:Row,↑(a.foldl dZ t)<=↑t+↑a:=by
 induction a with
 | nil=>intro t;simp
 | cons p a b =>
  intro t;let c:=b (dZ t p)
  let b:↑(dZ t p)<=↑t+1:=by
   unfold dZ;split
   ·lia
   ·exact wR _ _ _
  rw[jV,fE];lia
def ED(a:Wp):∀ t:Row,↑(a.foldl (λt n=>jj t n (n+1)) t)<=↑t+↑a:=by
 induction a with
 | nil=>intro t;simp
 | cons n a b =>
  intro t;let c:=b (jj t n (n+1));let b:=wR t n (n+1);rw[jV,fE];lia
end _gI
namespace _gI
open Spec Rows _L2 _cN
class inductive VS
 | mk (r:Addr) (a:Row) (_:vs=[↥r]) (_:bV H r a) (_:↑a<=1000000) (_: ∀ b,aJ H b->Q (.int (je a)) b)
end _gI
namespace _fG
open Spec Rows PySem.W _L2
end _fG
namespace _fG
open Spec Rows PySem.W _L2
end _fG
namespace _fG
open Spec Rows _L2
section
variable {X:Cx}
def JO{a y:Str}{m n:Nat}(h:↑a+(n+m)<=1000000)(b:↑y<=n):↑(a++y)<=sizeLine/\↑(a++y)+m<=1000000:=by
 rw[PySem.strLen_append];refine⟨Nat.le_of_lt (Nat.lt_of_le_of_lt (show ↑a+↑y<=1000000 by lia) (by decide)),by lia⟩
def Rp(r e f:R2)(g h i j:TE):TT:=fun a H Q=>g a H λx b=>h a b λy b=>r x y b λz b=>∃ k,z=.bl k/\
 (if k=true then i a b λu c=>e y u c λk c=>∃ d,k=.bl d/\(if d=true then j a c λv a=>f u v a λd k=>∃ a,d=.bl a/\Q a k else Q false c) else Q false b)
theorem Li{c d e:CmpOp}{r i j:R2}{k f g h:Expr}{l m n o:TE}(A:rm X (compareOp c) r)(B:rm X (compareOp d) i)(C:rm X (compareOp e) j)(D:PE X k l)(G:PE X f m)(H:PE X g n)(I:PE X h o)
  (J:lastMarks [c,d,e] [f,g,h]=false:=by with_unfolding_all rfl):PT X (.Compare k [c,d,e] [f,g,h] ab) (Rp r i j l m n o):=by
 intro a s b F Q L M
 refine isTrue_chain (dN (D a s b F _ L M) λF L ⟨M,N,O,R,S⟩=>test_link (dN (G a L b N _ O S) λu L ⟨y,N,O,p,S⟩ =>
  dN (A a L b N M y F u _ O R p S) λz w ⟨x,q,t,T,U,W,v⟩=>?_)) J
 subst W;cases T;refine wpAny_truthy_bool ?_
 cases U with
 | false=>exact ite_ff ⟨q,t,v⟩
 | true =>
  refine ite_tt (test_link (dN (H a w b q _ t v) λq F ⟨t,L,M,v,N⟩=>dN (B a F b L y t u q _ M p v N) λu s5 p=>?_));let⟨u,w,x,r5,k5,e5,z⟩:=p;subst e5;cases r5;refine wpAny_truthy_bool ?_
  cases k5 with
  | false=>exact ite_ff ⟨w,x,z⟩
  | true =>
   refine ite_tt (test_last (dN (I a s5 b w _ x z) λp u ⟨w,x,y,z,F⟩=>dN (C a u b x t w q p _ y v z F) λb p a=>?_));let⟨b,H7,I7,r7,p,e7,q7⟩:=a;subst e7;cases r7;exact wpAny_truthy_bool ⟨H7,I7,q7⟩
end
end _fG
namespace _gI
open _L2 _cN _fG
def aU{H b:Hp}{a:Addr}(s:aJ H b)(h:b a=none):H a=none:=by
 cases q:H a with
 | none=>rfl
 | some o=>rw[s a o q]at h;cases h
def uV(i:Int):Prop:=-(10^60)<i/\i<10^60
def N1(a b h:Int)(p:Int × Int):Row:=if max (a-h) 0<min (b-h) (p.2-p.1) then [(p.1+max (a-h) 0,p.1+min (b-h) (p.2-p.1))] else []
def kW(a b:Int):Int->Row->Row
 | _,[]=>[]
 | h,p::r=>N1 a b h p++kW a b (h+(p.2-p.1)) r
theorem EE(a b:Int)(p:Int × Int):∀ (r:Row) (c:Int),kW a b c (r++[p])=kW a b c r++N1 a b (c+je r) p
 | [],c=>by simp[kW,Q8]
 | q::r,c=>by
  let e:c+(q.2-q.1)+je r=c+je (q::r):=by rw[Ex];lia
  rw[List.cons_append,kW,EE a b p r,kW,e,ko]
def VU(a b h:Int)(p:Int × Int):↑(N1 a b h p)<=1:=by
 unfold N1
 split <;> simp
theorem j4(a b:Int):∀ (r:Row) (c:Int),↑(kW a b c r)<=↑r
 | [],_=>fH _
 | q::r,c=>by
  let d:=j4 a b r (c+(q.2-q.1));let z:=VU a b c q;rw[kW,dh,fE];lia
def N3(b c h:Int)(p:Int × Int):∀ q∈N1 b c h p,q.1<=q.2:=by
 unfold N1;split
 ·intro q a;simp only[List.mem_singleton]at a;subst a;simp only;lia
 ·intro q a;cases a
theorem CL(b c:Int):∀ (r:Row) (d:Int),∀ q∈kW b c d r,q.1<=q.2
 | [],_=>λq a=>by cases a
 | p::r,d=>λq a=>by
  rw[kW]at a;rcases List.mem_append.mp a with z|z
  ·exact N3 b c d p q z
  ·exact CL b c r _ q z
theorem yY(s:Int):∀ (n k:Nat),(run s n).drop k=run (s+k) (n-k)
 | n,0=>by simp
 | 0,k+1=>by simp[run]
 | n+1,k+1=>by
  rw[run,List.drop_succ_cons,yY (s+1) n k];let a:s+1+(k:Int)=s+((k+1:Nat):Int):=by lia
  let b:n+1-(k+1)=n-k:=by lia
  rw[a,b]
theorem yZ(s:Int):∀ (n k:Nat),(run s n).take k=run s (min k n)
 | n,0=>by simp[run]
 | 0,k+1=>by simp[run]
 | n+1,k+1=>by
  rw[run,List.take_succ_cons,yZ (s+1) n k];let a:min (k+1) (n+1)=min k n+1:=by lia
  rw[a,run]
def Lj(a b h:Int)(p:Int × Int)(d:p.1<=p.2):bC (N1 a b h p)=((gx p).take (b-h).toNat).drop (a-h).toNat:=by
 let⟨s,e⟩:=p;simp only at d;unfold N1 gx;simp only;rw[yZ,yY,← Int.ofNat_toNat (a-h)];generalize (a-h).toNat=n;generalize b-h=x;let f:0<=e-s:=by lia
 generalize e-s=y at f
 let g:min x.toNat y.toNat=(min x y).toNat:=by
  rcases Int.le_total x y with c|c
  ·rw[Int.min_eq_left c,Nat.min_eq_left (Int.toNat_le_toNat c)]
  ·rw[Int.min_eq_right c,Nat.min_eq_right (Int.toNat_le_toNat c)]
 rw[g];generalize min x y=m;clear g f d;by_cases c:(n:Int)<m
 ·rw[if_pos c,fC,gx];simp only;rw[Int.add_sub_add_left,Int.toNat_sub']
 ·rw[if_neg c,Nat.sub_eq_zero_of_le (Int.toNat_le.mpr (Int.not_lt.mp c))];rfl
def y9(b h:Int)(L:Nat):(b-(h+L)).toNat=(b-h).toNat-L:=by rw[← Int.sub_sub,Int.toNat_sub']
theorem qG(a b:Int):∀ (r:Row) (h:Int),(∀ p∈r,p.1<=p.2)->bC (kW a b h r)=((bC r).take (b-h).toNat).drop (a-h).toNat
 | [],h,_=>by simp[kW,bC]
 | p::r,h,ok=>by
  let c:=ok p (rY ..);let d:=qG a b r (h+(p.2-p.1)) λq e=>ok q (kY _ e);have f:bC (p::r)=gx p++bC r:=rfl;have e:=wV p c;rw[kW,cQ,Lj a b h p c,d,f,List.take_append,List.drop_append,gm];congr 1;rw[← e,y9,y9];by_cases c:↑(gx p)<=(b-h).toNat
  ·rw[Nat.min_eq_right c]
  ·rw[Nat.sub_eq_zero_of_le (Nat.le_of_not_le c)];simp
def Rt(a b t:Int):Prop:=0<=a/\a<=b/\b<=t
class inductive EF
 | mk (r:Addr) (c:Row) (a b:Int) (_:vs=[↥r,.int a,.int b]) (_:bV H r c) (_:↑c<=1000000) (_ :
 ∀ (q:Addr) (d:Hp),bV d q (kW a b 0 c)->aJ H d->H q=none->Q ↥q d)
end _gI
namespace _gI
open _L2 _cN _fG
end _gI
namespace _gI
open _L2 _cN _fG
def kC(r:Row)(a:∀ p∈r,p.1<=p.2):bC (cD r)=bC r:=by rw[nM r a,eT]
def oz(b c:Int)(a:Row)(d:∀ p∈a,p.1<=p.2):bC (cD (kW b c 0 a))=((bC a).take c.toNat).drop b.toNat:=by
 rw[kC _ (CL b c a 0),qG b c a 0 d,Int.sub_zero,Int.sub_zero]
theorem JP(s:Int):∀ (n k:Nat),k<n->(run s n)[k]?=⇑(s+k)
 | 0,k,h=>by lia
 | n+1,0,_=>by simp[run]
 | n+1,k+1,h=>by
  rw[run,List.getElem?_cons_succ,JP (s+1) n k ∅];congr 1;lia
def iU(r:Row):↑(cD r)<=↑r:=by
 let z:=EC r [];simpa [cD] using z
end _gI
namespace _gI
open Spec Rows _L2 _cN _fG
def bG.append{H:Hp}{a b:WF}{r q:Row}(h:bG H a r)(t:bG H b q):bG H (a++b) (r++q):=by
 induction h with
 | nil=>exact t
 | cons e _ c=>exact .cons e c
theorem VW{r q:Row}(h:∀ p∈r,p.1<=p.2)(g:∀ p∈q,p.1<=p.2):∀ p∈r++q,p.1<=p.2:=λp a=>(List.mem_append.mp a).elim (h p) (g p)
end _gI
namespace _L2
open Spec Rows
section
variable {c:Type} [DecidableEq c]
def cI(a:List (c × V))(k:c):Option V:=(a.find? λb=>decide (b.1=k)).map (·.2)
def fk(b:List (c × V))(k:c)(v:V):List (c × V) :=
 if (b.any λa=>decide (a.1=k))=true then b.map (λa=>if a.1=k then (a.1,v) else a) else b++[(k,v)]
def iJ{p:c × V}{r:List (c × V)}{k:c}(e:p.1=k):cI (p::r) k=⇑p.2:=by simp[cI,List.find?_cons,e]
def iK{p:c × V}{r:List (c × V)}{k:c}(e:¬ p.1=k):cI (p::r) k=cI r k:=by simp[cI,List.find?_cons,e]
theorem mE(k:c):∀ a:List (c × V),(a.any λb=>decide (b.1=k))=(cI a k).isSome
 | []=>rfl
 | p::r=>by
  rw[List.any_cons];by_cases e:p.1=k
  ·simp only[iJ e,decide_eq_true e,Bool.true_or,Option.isSome_some]
  ·rw[iK e,decide_eq_false e,Bool.false_or];exact mE k r
theorem EG(k j:c)(y:V):∀ b:List (c × V),cI (b.map λa=>if a.1=k then (a.1,y) else a) j=(cI b j).map λx=>if j=k then y else x
 | []=>rfl
 | p::r=>by
  let d:=EG k j y r;rw[jv];by_cases h:p.1=k
  ·rw[if_pos h];by_cases e:p.1=j
   ·rw[iJ (p:=(p.1,y)) e,iJ e,Option.map_some,if_pos (e.symm.trans h)]
   ·rw[iK (p:=(p.1,y)) e,iK e,d]
  ·rw[if_neg h];by_cases e:p.1=j
   ·rw[iJ (p:=p) e,iJ e,Option.map_some,if_neg (λz=>h (e.trans z))]
   ·rw[iK (p:=p) e,iK e,d]
theorem BG(k j:c)(y:V):∀ b:List (c × V),cI b k=none->cI (b++[(k,y)]) j=if j=k then some y else cI b j
 | [],_=>by
  by_cases e:k=j
  ·rw[if_pos e.symm];exact iJ (p:=(k,y)) e
  ·rw[if_neg (λz=>e z.symm)];exact iK (p:=(k,y)) e
 | p::r,a=>by
  rw[List.cons_append];let d:¬ p.1=k:=λz=>by rw[iJ z]at a;cases a
  rw[iK d]at a;let f:=BG k j y r a;by_cases e:p.1=j
  ·rw[iJ e,iJ e,if_neg (λz=>d (e.trans z))]
  ·rw[iK e,iK e,f]
def kF(b:List (c × V))(k j:c)(y:V):cI (fk b k y) j=if j=k then some y else cI b j:=by
 unfold fk;by_cases a:(b.any λd=>decide (d.1=k))=true
 ·rw[if_pos a,EG];rw[mE]at a;by_cases e:j=k
  ·let⟨x,d⟩:=Option.isSome_iff_exists.mp a;rw[if_pos e,e,d,Option.map_some,if_pos rfl]
  ·rw[if_neg e]
   cases cI b j with
   | none=>rfl
   | some x=>rw[Option.map_some,if_neg e]
 ·rw[if_neg a];refine BG k j y b ?_;rw[mE]at a
  cases q:cI b k with
  | none=>rfl
  | some x=>rw[q]at a;exact (a rfl).elim
def iL(a:List (c × V))(k:c)(v:V):↑(fk a k v)<=↑a+1:=by
 unfold fk;split
 ·rw[cC];lia
 ·rw[dh,fE,pR];lia
def zc{a:List (c × V)}{k:c}(v:V)(h:cI a k=none):fk a k v=a++[(k,v)]:=by
 unfold fk;rw[mE,h];exact if_neg (by decide)
def pD.vp{o:Option V}{u:XB}(r:pD o u):o.isSome=u.isSome:=by
 cases o with
 | none=>cases u with
  | none=>rfl
  | some _=>exact (show False from r).elim
 | some _=>cases u with
  | none=>exact (show False from r).elim
  | some _=>rfl
def pD.getD{o:Option V}{u:XB}{d:V}{a:Value}(r:pD o u)(b:RelV d a):RelV (o.getD d) (u.getD a):=by
 cases o with
 | none=>cases u with
  | none=>exact b
  | some _=>exact (show False from r).elim
 | some _=>cases u with
  | none=>exact (show False from r).elim
  | some _=>exact r
def KV.val{f:List (c × V)}{g:List (c × Value)}(r:KV f g)(k:c):pD (cI f k) (valueAt g k):=by
 unfold KV at r
 induction r with
 | nil=>exact True.intro
 | @cons p q b a h t j =>
  let⟨i,l⟩:=h;by_cases e:p.1=k
  ·let b:q.1=k:=i.symm.trans e;let d:valueAt (q::a) k=⇑q.2:=by simp[valueAt,List.find?_cons,b]
   rw[iJ e,d];exact l
  ·let b:¬ q.1=k:=λz=>e (i.trans z);have d:valueAt (q::a) k=valueAt a k:=by simp[valueAt,List.find?_cons,b]
   rw[iK e,d];exact j
def KV.any{b:List (c × V)}{d:List (c × Value)}(r:KV b d)(k:c):(b.any λa=>decide (a.1=k))=d.any λa=>decide (a.1=k):=by
 unfold KV at r
 induction r with
 | nil=>rfl
 | cons h t e=>rw[List.any_cons,List.any_cons,e,h.1]
theorem KV.repl{d:List (c × V)}{f:List (c × Value)}(r:KV d f)(k:c){y:V}{u:Value}(g:RelV y u) :
  KV (d.map λa=>if a.1=k then (a.1,y) else a) (f.map λa=>if a.1=k then (a.1,u) else a):=by
 unfold KV at r ⊢
 induction r with
 | nil=>exact .nil
 | @cons p q e i h t b =>
  rw[jv,jv];refine .cons ?_ b;let⟨b,i⟩:=h;by_cases e:p.1=k
  ·rw[if_pos e,if_pos (b.symm.trans e)];exact⟨b,g⟩
  ·rw[if_neg e,if_neg (λz=>e (b.trans z))];exact⟨b,i⟩
def KV.put{b:List (c × V)}{a:List (c × Value)}(r:KV b a)(k:c){y:V}{u:Value}(d:RelV y u):KV (fk b k y) (stored a k u):=by
 unfold fk stored;rw[r.any k];by_cases e:(a.any λf=>decide (f.1=k))=true
 ·rw[if_pos e,if_pos e];exact r.repl k d
 ·rw[if_neg e,if_neg e];exact Paired.snoc r ⟨1,d⟩
theorem KV.length{a:List (c × V)}{b:List (c × Value)}(r:KV a b):↑a=↑b:=Paired.length r
end
def zd{P:Program}{w:World}{k:fR}{u:Value}(r:RelV (kV k) u):(fN P w).is k u=true:=by
 cases k with
 | inl i=>let⟨t,e⟩:=(show ∃ t,u=Value.int i t from r);subst e;exact D3 P w i t
 | inr x=>let⟨t,e⟩:=(show ∃ t,u=Value.str x t from r);subst e;exact D4 P w x t
theorem BH{P:Program}{w:World}:∀ {a:List fR} {b:WP},cE (a.map kV) b->ItemsAre (fN P w) a b
 | [],_,r=>by rw[List.map_nil]at r;cases r;exact .nil
 | k::a,_,r=>by
  rw[jv]at r
  cases r with
  | cons h t=>exact .cons (zd h) (BH t)
abbrev KT(H:Hp):List (List fR × V)->List (List fR × Addr × Value)->Prop:=Paired λp q=>p.1=q.1/\H q.2.1=⇑(.tup (p.1.map kV))/\RelV p.2 q.2.2
def KT.val{H:Hp}{d:List (List fR × V)}{f:List (List fR × Addr × Value)}(r:KT H d f)(k:List fR):pD (cI d k) ((atKey f k).map (·.2)):=by
 induction r with
 | nil=>exact True.intro
 | @cons p q b a h t i =>
  let⟨g,_,j⟩:=h;by_cases e:p.1=k
  ·let b:q.1=k:=g.symm.trans e;let c:atKey (q::a) k=⇑q.2:=by simp[atKey,List.find?_cons,b]
   rw[iJ e,c];exact j
  ·let b:¬ q.1=k:=λz=>e (g.trans z);have c:atKey (q::a) k=atKey a k:=by simp[atKey,List.find?_cons,b]
   rw[iK e,c];exact i
theorem KT.repl{H:Hp}{c:List (List fR × V)}{d:List (List fR × Addr × Value)}(r:KT H c d)(k:List fR){y:V}{u:Value}(g:RelV y u) :
  KT H (c.map λb=>if b.1=k then (b.1,y) else b) (d.map (putAt k u)):=by
 induction r with
 | nil=>exact .nil
 | @cons p q e f h t a =>
  rw[jv,jv];refine .cons ?_ a;let⟨a,f,i⟩:=h;unfold putAt;by_cases e:p.1=k
  ·rw[if_pos e,if_pos (a.symm.trans e)];exact⟨a,f,g⟩
  ·rw[if_neg e,if_neg (λz=>e (a.trans z))];exact⟨a,f,i⟩
theorem KT.put{H:Hp}{b:List (List fR × V)}{a:List (List fR × Addr × Value)}(r:KT H b a)(k:List fR){c:Addr}{y:V}{u:Value}(e:H c=⇑(.tup (k.map kV)))(d:RelV y u) :
  KT H (fk b k y) (storedH a k c u):=by
 let f:(b.any λg=>decide (g.1=k))=(atKey a k).isSome:=by
  rw[mE,(r.val k).vp,Option.isSome_map]
 unfold fk storedH;rw[f];by_cases q:(atKey a k).isSome=true
 ·rw[if_pos q,if_pos q];exact r.repl k d
 ·rw[if_neg q,if_neg q];exact Paired.snoc r ⟨1,e,d⟩
theorem KT.keeps{H a:Hp}{b:List (List fR × V)}{c:List (List fR × Addr × Value)}(r:KT H b c)(f:∀ d e,H d=⇑(.tup e)->a d=⇑(.tup e)):KT a b c :=
 Paired.Cs r λ_ _ z=>⟨z.1,f _ _ z.2.1,z.2.2⟩
section
variable {P:Program} {w:World} {H:Hp} {h:Heap} {a:Addr}
theorem Uj{u:HO}(b:tK P w H h)(e:Rd H a u):gA P w H h a u:=e.ok b
theorem BI{b:List (fR × V)}(d:tK P w H h)(e:Rd H a (.dK b)):↑b<=sizeLine/\(a == sysModules)=false/\∃ c,KV b c/\h.DictOf (fN P w) a c :=
 show gA P w H h a (.dK b) from Uj d e
theorem N4{b:List (fR × V)}(d:tK P w H h)(e:H a=⇑(.dK b)):↑b<=sizeLine/\(a == sysModules)=false/\∃ c,KV b c/\h.DictOf (fN P w) a c:=BI d (.inl e)
def ze{b:List fR}(c:tK P w H h)(e:H a=⇑(.tup (b.map kV))):(tupleKind (fN P w)).is h b a:=by
 let⟨_,d,r,o,f,g,n,i⟩:=(show gA P w H h a (.tup (b.map kV)) from c a _ e);exact⟨o,d.toArray,n,f,g,i,by simpa using BH r⟩
theorem BJ{c:List (List fR × V)}(f:tK P w H h)(e:Rd H a (.dT c)):↑c<=sizeLine/\(a == sysModules)=false/\
  ∃ d,KT H c d/\h.DictOfH (tupleKind (fN P w)) a d:=by
 let⟨z,y,d,r,o,i,j,k,l,m,n,p⟩:=(show gA P w H h a (.dT c) from Uj f e);refine⟨z,y,d,r,o,i,j,k,l,m,n,λx b=>?_,p⟩
 let s:∀ {l:List (List fR × V)} {m:List (List fR × Addr × Value)},KT H l m->∀ x∈m,(tupleKind (fN P w)).is h x.1 x.2.1:=by
  intro l m q
  induction q with
  | nil=>intro x b;exact nomatch b
  | @cons p q i j g k t =>
   intro x b;rcases List.mem_cons.mp b with e|b
   ·subst e;exact ze f (by rw[← g.1];exact g.2.1)
   ·exact t x b
 exact s r x b
theorem ZA{b:List (List fR × V)}(d:tK P w H h)(e:H a=⇑(.dT b)):↑b<=sizeLine/\(a == sysModules)=false/\
  ∃ c,KT H b c/\h.DictOfH (tupleKind (fN P w)) a c:=BJ d (.inl e)
end
def gW(H:Hp)(b:Addr)(y:V)(r:Option V):Prop :=
 (∃ a k,Rd H b (.dK a)/\y=kV k/\r=cI a k)\/∃ a k c,Rd H b (.dT a)/\y=↥c/\H c=⇑(.tup (k.map kV))/\r=cI a k
def zf(H:Hp)(b:Addr)(y v:V)(c:Hp):Prop :=
 (∃ a k,H b=⇑(.dK a)/\y=kV k/\↑a<sizeLine/\c=aL H b (.dK (fk a k v)))\/
 ∃ a k d,H b=⇑(.dT a)/\y=↥d/\H d=⇑(.tup (k.map kV))/\↑a<sizeLine/\c=aL H b (.dT (fk a k v))
theorem gW.k{H:Hp}{b:Addr}{a:List (fR × V)}{k:fR}(e:H b=⇑(.dK a)):gW H b (kV k) (cI a k):=.inl ⟨a,k,.inl e,V⟩
theorem zf.k{H:Hp}{b:Addr}{a:List (fR × V)}{k:fR}{v:V}(e:H b=⇑(.dK a))(c:↑a<sizeLine):zf H b (kV k) v (aL H b (.dK (fk a k v))):=.inl ⟨a,k,e,1,c,1⟩
section
variable {X:Cx} {au:List (Addr × Obj)} {σ:St} {H:Hp} {s:Shared} {a:Addr} {y v:V} {u r:Value} {o:Option V} {A:Around} {E:ZB}
def Inv.big(I:Inv X au σ H s):sysModules<s.heap.objs.size:=by
 let h:mainGlobals<s.heap.objs.size:=(I.mod.glob.keeps I.bk).lt;exact Nat.lt_trans (by decide) h
theorem Lk{Q:ZB}(n:A.units+1<cLine)(I:Inv X au σ H s)(p:gW H a y (⇑v))(i:RelV y u)(j:∀ b m,Inv X au σ H m->RelV v b->Q b m) :
  wpAny (model X.prog X.w) A (getItem ↥a u) Q E s:=by
 rcases p with ⟨o,k,e,c,l⟩|⟨o,k,q,e,c,r,l⟩
 ·subst c;let⟨z,t,o,d,f⟩:=BI I.hok e;let⟨b,g,h⟩:=pD.some_of (v:=v) (o:=valueAt o k) (by rw[l];exact d.val k);exact wpAny_getItem_of (zd i) f.mapOf g (j b _ (I.tok _) h)
 ·subst c;cases (show u=Value.ref q from i);let⟨z,t,c,d,f⟩:=BJ I.hok e;let⟨b,g,h⟩:=pD.some_of (v:=v) (o:=(atKey c k).map (·.2)) (by rw[l];exact d.val k);let⟨e,c,d⟩:=Option.map_eq_some_iff.mp g;refine wpAny_getItem_heap (tupleKind_room_in1 n) (ze I.hok r) f c ?_;rw[d];exact j b _ (I.tok _) h
theorem Ru{Q:ZB}(j:A.units+1<cLine)(I:Inv X au σ H s)(m:gW H a y o)(g:RelV y u)(h:∀ i,Inv X au σ H i->Q (.bool (!o.isSome)) i) :
  wpAny (model X.prog X.w) A (compareOp .NotIn u ↥a) Q E s:=by
 rcases m with ⟨n,k,e,b,l⟩|⟨n,k,p,e,b,q,l⟩
 ·subst b;let⟨z,c,n,d,f⟩:=BI I.hok e;refine wpAny_notIn_of (zd g) c f.mapOf ?_;rw[← (d.val k).vp,← l];exact h _ (I.tok _)
 ·subst b;cases (show u=Value.ref p from g);let⟨z,c,b,d,f⟩:=BJ I.hok e;refine wpAny_notIn_heap (tupleKind_room_in1 j) (ze I.hok q) c f ?_;let q:=(d.val k).vp;rw[Option.isSome_map]at q;rw[← q,← l];exact h _ (I.tok _)
theorem xR{b:Heap}{d:Nat}{c:HO}(I:Inv X au σ H s)(e:Ys (H a))(f:Heap.SameBut a s.heap b)(g:∃ q,b.get? a=⇑q)(h:gA X.prog X.w (aL H a c) b a c) :
  Inv X au σ (aL H a c) { s with heap:=b,toks:=d } :=
 I.write (x:=a) (e:=a) e (.inl rfl) (λi q j z=>(f.2 i j).trans z) g h
theorem Hx{P:Program}{w:World}{e:Hp}{d:Heap}{b:List (fR × V)}{c:List (fR × Value)}(z:↑b<=sizeLine)(f:(a == sysModules)=false)(g:KV b c)(h:d.DictOf (fN P w) a c) :
  gA P w e d a (.dK b):=⟨z,f,c,g,h⟩
theorem Ll{p:Hp}{Q:Unit->Shared->Prop}(D:A.units+1<cLine)(I:Inv X au σ H s)(G:zf H a y v p)(t:RelV y u)(w:RelV v r)(x:∀ B,Inv X au σ p B->Q () B) :
  wpAny (model X.prog X.w) A (setItem ↥a u r) Q E s:=by
 rcases G with ⟨b,k,e,g,F,h⟩|⟨b,k,J,e,g,o,F,h⟩
 ·subst g h;let⟨z,i,F,c,j⟩:=N4 I.hok e;let l:↑F<=sizeLine:=by rw[← ↑c];exact z
  let m:↑(fk b k v)<=sizeLine:=by have:=iL b k v;lia
  refine wpAny_setItem_pairs (hsz:=l) (zd t) j λC d n=>x _ ?_;have F:∃ q,C.get? a=⇑q:=let ⟨q,E,f,_⟩:=d;⟨q,f⟩;exact xR I (by rw[e];exact True.intro) n F (Hx m i (c.put k w) d)
 ·subst g h;cases (show u=Value.ref J from t);let⟨z,i,g,c,j⟩:=ZA I.hok e;let l:↑g<=sizeLine:=by rw[← Paired.length c];exact z
  let m:↑(fk b k v)<=sizeLine:=by have:=iL b k v;lia
  refine wpAny_setItem_heap (hsz:=l) (tupleKind_room_in1 D) (ze I.hok o) j λC d n=>x _ ?_;let⟨q,g,h,f,j,l,C,_,F⟩:=d;refine xR I (by rw[e];exact True.intro) n ⟨q,f⟩ ⟨m,i,_,(c.put k o w).keeps λc d b=>?_,q,g,h,f,j,l,C,F⟩;rw[aK (cS b e (λz=>nomatch z))];exact b
end
def VX(i:Expr):Prop:=∀ a b,subscripted i false a b=operate [a,b] (getItem a b)
theorem Rv{a:Program}{w:World}{A:Around}{E:ZB}{s:Shared}{c:Env}{T k:String}{Q:ZB}
  (l:typeLookup (.type T) "__getitem__"=pure (⇑(.builtin k))) (m:VX d)
  (n:wpAny (model a w) A (eval g c) (λo h=>wpAny (model a w) A (eval d c) (λi b=>b.TypeIs o T/\wpAny (model a w) A (getItem o i) Q E b) E h) E s) :
  wpAny (model a w) A (eval (.Subscript g d p) c) Q E s:=by
 refine Subscript_ (wpAny_mono n (λo h e=>wpAny_mono e (λi b e=>?_) λ_ _ x=>x) λ_ _ x=>x);let⟨f,e⟩:=e;unfold subscriptTail;refine wpAny_bind ?_;rw[getitemInPython_of_ne f.not_modules];refine wpAny_bind (wpAny_specialOf f l ?_)
 let f:wpAny (model a w) A (subscripted d false o i) (λr j=>wpAny (model a w) A (letTemporaryGo g o r >>= λ_=>pure r) Q E j) E b:=by
  rw[m o i];exact wpAny_operating (wpAny_mono e (λr j e=>wpAny_bind (wpAny_letTemporaryGo (wpAny_pure e))) λ_ _ x=>x)
 first
  | exact wpAny_pure (wpAny_bind f)
  | exact wpAny_bind (wpAny_pure (wpAny_bind f))
  | exact wpAny_bind f
def EH{c:Cx}{d:St}{H:Hp}{s:Shared}{b:Addr}{y:V}{o:Option V}(I:Inv c f d H s)(g:gW H b y o):s.TypeIs ↥b "dict":=by
 rcases g with ⟨a,k,e,_,_⟩|⟨a,k,h,e,_,_,_⟩
 ·let⟨_,_,h,_,a⟩:=BI I.hok e;exact a.typeIs
 ·let⟨_,_,h,_,a⟩:=BJ I.hok e;exact a.typeIs
inductive ZC(x y:V)(H:Hp)(Q:VK):Prop
 | mk (a:Addr) (v:V) (_:x=↥a) (_:gW H a y (⇑v)) (_:Q v H):ZC x y H Q
def Ul(b c:TE):TE:=fun a H Q=>b a H λx d=>c a d λy a=>ZC x y a Q
def Rw(c d:TE):TE:=fun a H Q=>c a H λy b=>d a b λx a=>∃ b o,x=↥b/\gW a b y o/\Q (.bl (!o.isSome)) a
def ZD(d e f:TE):TS:=λD a H=>f a H λv b=>d a b λx b=>e a b λy g=>∃ b c,x=↥b/\zf g b y v c/\D.nx a c
section
variable {X:Cx} {o i e value:Expr} {pos jc KH:Pos} {td ty tv:TE}
def Rx(d:X.A.units+1<cLine)(f:PE X o td)(h:PE X i ty)(j:VX i):PE X (.Subscript o i pos) (Ul td ty):=by
 intro a s b H Q I e;refine Rv PySem.F.slot_dict_getitem.lookup j (dN (f a s b H _ I e) λu e ⟨x,k,l,m,n⟩=>dN (h a e b k _ l n) λb e a=>?_);let⟨y,p,c,q,r,v,t,g,w⟩:=a;subst t;obtain rfl:u=Value.ref r:=m;exact⟨EH c g,Lk d c g q λc e a b=>⟨v,p,a,b,w⟩⟩
def BK(c:X.A.units+1<cLine)(d:PE X i ty)(f:PE X o td):PC X .NotIn i o (Rw ty td):=by
 intro a s b H Q I h;refine dN (d a s b H _ I h) λw e ⟨y,g,h,j,k⟩=>dN (f a e b g _ h k) λu b a=>?_;let⟨x,l,m,n,p,q,r,t,v⟩:=a;subst r;obtain rfl:u=Value.ref p:=n;exact Ru c m t j λb a=>⟨.bl (!q.isSome),l,a,1,v⟩
theorem oA(c:X.A.units+1<cLine)(d:PE X o td)(f:PE X i ty)(g:PE X value tv)(h:swapsWith value (⇑(.Subscript o i jc)) pos.line X.env=pure false) :
  PS X (.Assign [.Subscript o i jc] value pos) (ZD td ty tv):=by
 intro b s a H D I e;refine wpAny_Assign_Subscript (dN (g b s a H _ I e) λy e ⟨z,j,k,l,m⟩=>dN (d b e a j _ k m) λu e ⟨y,j,k,n,m⟩=>dN (f b e a j _ k m) λb e ⟨y,j,p,q,r,t,v,w,x⟩=>?_) h;subst v;obtain rfl:u=Value.ref r:=n;exact Ll c p w q l λe b=>⟨a,t,b,x⟩
end
theorem EI{P:Program}{w:World}{H:Hp}(h:Heap)(a:sysModules<h.objs.size):gA P w H (h.push { cls:=.type "dict",data:=.dict #[] }) h.objs.size (.dK []) :=
 ⟨Nat.zero_le _,beq_eq_false_iff_ne.mpr (Ne.symm (jN a)),[],.nil,Heap.DictOf.new h⟩
def VY:TE:=λ_ H Q=>∀ p,H p=none->Q ↥p (aL H p (.dK []))
section
variable {X:Cx} {pos:Pos}
theorem mF:PE X (.Dict [] [] pos) VY:=λa s b H Q I h =>
 wpAny_Dict_empty ⟨↥s.heap.objs.size,_,I.laid (a:=s.heap.objs.size) (o:=.dK []) (t':=s.toks) (λ_ _ q=>Heap.get?_push_of_some _ q) (fH _) (EI s.heap I.big),1,h _ (I.hok.fresh (fH _))⟩
end
def Hy:List (TE × TE)->St->Hp->(List (V × V)->Hp->Prop)->Prop
 | [],_,H,Q=>Q [] H
 | (b,c)::r,a,H,Q=>b a H λx b=>c a b λy b=>Hy r a b λa b=>Q ((x,y)::a) b
abbrev VV:List (V × V)->List (Value × Value)->Prop:=Paired λp q=>RelV p.1 q.1/\RelV p.2 q.2
def ew(a:Cx)(f:Pos)(g:List (Option Expr))(h:List Expr)(i:List (TE × TE)):Prop :=
 ∀ (c:List (Addr × Obj)) (s:Shared) (b:St) (H:Hp) (Q:List (V × V)->Hp->Prop),Inv a c b H s->Hy i b H Q->
  wpAny (model a.prog a.w) a.A (evalPairs (pairTrees g h a.env f)) (λj k=>∃ d e,Inv a c b e k/\VV d j/\Q d e) a.xe s
theorem Rz{a:Cx}:ew a b [] [] []:=λc s d H Q I h=>pairTrees_nil_walk ⟨[],H,I,.nil,h⟩
theorem uo{a:Cx}{k v:Expr}{d:List (Option Expr)}{e f:TE}{g:List (TE × TE)}(h:PE a k e)(i:PE a v f)(j:ew a l d m g) :
  ew a l (⇑k::d) (v::m) ((e,f)::g):=λb s c H Q I n =>
 pairTrees_cons_walk (dN (h b s c H _ I n) λu n ⟨x,o,p,q,r⟩=>dN (i b n c o _ p r) λu n ⟨y,o,p,r,t⟩ =>
  dN (j b n c o _ p t) λt u ⟨b,c,n,o,p⟩=>⟨(x,y)::b,c,n,.cons ⟨q,r⟩ o,p⟩)
def vq(b c:List (fR × V)):List (fR × V):=c.foldl (λd a=>fk d a.1 a.2) b
def KV.merge:∀ {c:List (fR × V)} {d:List (fR × Value)} {a:List (fR × V)} {b:List (fR × Value)},KV c d->KV a b->KV (vq a c) (merged b d):=by
 intro c d a b r;unfold KV at r
 induction r generalizing a b with
 | nil=>intro q;exact q
 | @cons p q f g h t e =>
  intro f
  let g:KV (fk a p.1 p.2) (stored b q.1 q.2):=by
   have:=f.put p.1 h.2;rw[← h.1];exact this
  exact e g
theorem rS:∀ (b a:List (fR × V)),↑(vq a b)<=↑a+↑b
 | [],a=>by show ↑a<=↑a+0;lia
 | p::r,a=>by
  let c:=rS r (fk a p.1 p.2);let c:=iL a p.1 p.2;show ↑(vq (fk a p.1 p.2) r)<=_;rw[fE];lia
theorem zh{P:Program}{w:World}:∀ {d:List (fR × V)} {e:List (Value × Value)},VV (d.map λf=>(kV f.1,f.2)) e->∃ c,Carries (fN P w) e c/\KV d c
 | [],_,r=>by rw[List.map_nil]at r;cases r;exact⟨[],True.intro,.nil⟩
 | p::d,_,r=>by
  rw[jv]at r
  cases r with
  | @cons a b g bs h t =>
   let⟨c,g,q⟩:=zh (P:=P) (w:=w) t;let⟨j,i⟩:=b;exact⟨(p.1,i)::c,⟨zd h.1,1,g⟩,.cons ⟨1,h.2⟩ q⟩
def N5(d:List (TE × TE)):TE:=fun a H Q=>∀ p,H p=none->Hy d a (aL H p (.dK [])) λc b=>b p=⇑(.dK [])/\∃ a:List (fR × V),c=a.map (λc=>(kV c.1,c.2))/\↑a<=15/\Q ↥p (aL b p (.dK (vq [] a)))
theorem RA{a:Cx}{b:List (Option Expr)}{c:List Expr}{d:List (TE × TE)}(i:ew a j b c d)(k:b.all (·.isSome)=true)(l:b.length=↑c)(m:b≠[])
  (n:b.length<=15):PE a (.Dict b c j) (N5 d):=by
 intro h s o H Q I q;let p:=I.hok.fresh (fH s.heap.objs.size);let r:=I.laid (a:=s.heap.objs.size) (o:=.dK []) (h':=s.heap.push { cls:=.type "dict",data:=.dict #[] }) (t':=s.toks) (λ_ _ q=>Heap.get?_push_of_some _ q) (fH _) (EI s.heap I.big);refine wpAny_Dict_walk (knd:=fN a.prog a.w) k l m n (dN (i h _ o _ _ r (q _ p)) λo p h=>?_);let⟨o,p,e,t,f,g,u,lk,v⟩:=h;subst u;let⟨w,x,y⟩:=zh (P:=a.prog) (w:=a.w) t;let⟨h,z,o,A,B⟩:=N4 e.hok f;cases A;refine⟨w,x,B,λo h p=>⟨↥s.heap.objs.size,_,?_,1,v⟩⟩
 let r:↑(vq [] g)<=sizeLine:=by
  let t:=rS g [];rw[pR]at t;rw[sizeLine_eq];lia
 let g:∃ q,o.get? s.heap.objs.size=⇑q:=let ⟨q,E,o,_⟩:=h;⟨q,o⟩;exact xR e (by rw[f];exact True.intro) p g (Hx r z (y.merge .nil) h)
structure M2(X:Cx)(o:Expr)(m:Str)(jX:Pos)(e f:Expr)(nK:Pos):Prop where
 zt:attributeBase o m X.env (eval o X.env)=eval o X.env
 few:((backTo nK (starEach [e,f] X.env)).all (λx=>!x.1)&&(backToKw nK (keywordEach [] X.env)).all (λx=>x.1.isSome)
  && decide (↑([e,f]:List Expr)+↑([]:List Keyword)+(if ([]:List Keyword).isEmpty then 0 else 1)<30))=true
 line:(jX.endLine == nK.line)=true
 trees:backTo nK (starEach [e,f] X.env)=[(false,eval e X.env),(false,eval f X.env)]
def e'(H:Hp)(b:Addr):Prop:=(∃ a,Rd H b (.dK a))\/∃ a,Rd H b (.dT a)
theorem N6{i:Cx}{j:St}{H:Hp}{s:Shared}{c:Addr}(I:Inv i m j H s)(k:e' H c) :
  s.TypeIs ↥c "dict"/\(∀ d,Value.ref c=↥d->∃ a,s.heap.get? d=⇑a/\a.dict=none)/\(c == sysModules)=false:=by
 rcases k with ⟨l,e⟩|⟨l,e⟩
 ·let⟨_,f,l,_,b⟩:=BI I.hok e;refine⟨b.typeIs,λd q=>?_,f⟩;cases q;let⟨a,_,_,g,h,_⟩:=b;exact⟨a,g,h.2.1⟩
 ·let⟨_,f,l,_,b⟩:=BJ I.hok e;refine⟨b.typeIs,λd q=>?_,f⟩;cases q;let⟨a,_,_,g,h,_⟩:=b;exact⟨a,g,h.2.1⟩
section
variable {X:Cx} {au:List (Addr × Obj)} {σ:St} {H:Hp} {s:Shared} {a:Addr} {y d:V} {u r:Value} {o:Option V} {A:Around} {E:ZB}
theorem VZ{Q:ZB}(q:A.units+1<cLine)(I:Inv X au σ H s)(t:gW H a y o)(h:RelV y u)(i:RelV d r)(j:∀ m n,Inv X au σ H n->RelV (o.getD d) m->Q m n) :
  wpAny (model X.prog X.w) A (call (.builtin "dict.get") [↥a,u,r]) Q E s:=by
 rcases t with ⟨v,k,e,c,l⟩|⟨v,k,p,e,c,w,l⟩
 ·subst c;let⟨z,f,v,g,b⟩:=BI I.hok e;refine call_meetsIn PySem.F.slot_dict_get b.typeIs PySem.F.entry_dict_get (PySem.F.args_dict_get_3 _ _ _) (meets_dict_get_default (fN X.prog X.w) a (zd h) f r) ⟨_,b.mapOf,j _ _ (I.tok _) ?_⟩;rw[l];exact (g.val k).getD i
 ·subst c;cases (show u=Value.ref p from h);let⟨z,f,c,g,b⟩:=BJ I.hok e;refine call_meetsIn PySem.F.slot_dict_get b.typeIs PySem.F.entry_dict_get (PySem.F.args_dict_get_3 _ _ _) (meetsH_dict_get_default (tupleKind (fN X.prog X.w)) a p f r) ⟨tupleKind_room_in1 q,k,c,ze I.hok w,b,j _ _ (I.tok _) ?_⟩;rw[l];exact (g.val k).getD i
end
def V0(d e f:TE):TE:=fun a H Q=>d a H λx c=>∃ b,x=↥b/\e' c b/\e a c λy c=>f a c λz a=>∃ o,gW a b y o/\Q (o.getD z) a
section
variable {X:Cx} {o e f:Expr} {jX nK:Pos} {td ty tx:TE}
def N7(d:X.A.units+1<cLine)(g:PE X o td)(h:PE X e ty)(i:PE X f tx)(m:M2 X o "get" jX e f nK):PE X (.Call (.Attribute o "get" jX) [e,f] [] nK) (V0 td ty tx):=by
 intro a s b H Q I j;refine wpAny_Call_method m.zt m.few m.line PySem.F.plainAttrs_dict PySem.F.slot_dict_get PySem.F.type_dict_get (dN (g a s b H _ I j) λu k j=>?_);let⟨x,l,c,n,p,q,r,t⟩:=j;subst q;obtain rfl:u=Value.ref p:=n;let⟨j,n,_⟩:=N6 c r;exists j,n;rw[m.trees]
 refine Calls.callWith_builtin rfl (Calls.evalArgs_plain (Calls.spliced_cons (dN (h a k b l _ c t) λp c ⟨y,j,k,l,n⟩ =>
  Calls.spliced_cons (dN (i a c b j _ k n) λn p ⟨z,a,b,c,q,j,k⟩=>Calls.spliced_nil ?_))))
 exact VZ d b j l c λj l b c=>⟨_,a,b,c,k⟩
end
end _L2
namespace _cN
open Spec Rows _L2
def jf(a:Cx)(N:UV)(b:Scope)(c:List (Str × Addr))(C:Addr)(s₀:Shared)(H₀:Hp)(ex:WF)(pn:List (Addr × Obj)):Cx where
 prog:=a.prog
 w:=a.w
 K:=a.K
 mg:=a.mg
 zt:=a.zt
 A:=a.A
 N:=N
 s₀:=s₀
 H₀:=H₀
 env:=compEnvC b c C a.env
 zn:=a.stack
 stack:=a.stack
 ex:=ex
 fn:=λ_=>false
 calm:=a.calm
 pn:=pn
 xe:=λ_ _=>False
structure BL(X:Cx)(N:UV)(scope:Scope)(cl:List (Str × Addr))(jx:List (Option Nat)):Prop where
 kind:scope.kind=.function
 cell:∀ x∈scope.names,x.2≠.cell
 names:∀ x∈scope.names,x.2=.local->scope.names.lookup x.1=⇑.local
 clos:closureFor scope X.env=pure cl
 sub:∀ x c,cl.lookup x=⇑c->X.env.cells.lookup x=⇑c
 has:∀ x,((relabel scope X.env).names.lookup x=⇑.cell\/(relabel scope X.env).names.lookup x=⇑.free)->∃ c,cl.lookup x=⇑c
 len:↑jx=↑N
 free:∀ (i j:Nat) (x:Str),jx[i]?=⇑(⇑j)->N[i]?=⇑x->X.N[j]?=⇑x/\X.env.scope.names.lookup x=⇑.cell/\(relabel scope X.env).names.lookup x=⇑.cell
def sO(a:List (Option Nat))(b:_L2.St):_L2.St:=a.map λo=>o.bind λj=>(b[j]?).join
section
variable {X:Cx} {N:UV} {scope:Scope} {c:List (Str × Addr)} {jx:List (Option Nat)}
theorem wW{h:_L2.St}{H:Hp}{s:Shared}{m:WF}{q:Heap}{C:Nat}(d:BL X N scope c jx)(I:Inv X i h H s)(n:∀ b∈m,oj X i H b)(D:∀ b∈m,b<s.heap.objs.size)
  (G:q.Ns s.heap.objs.size λ_=>none) (j:∀ b o,s.heap.get? b=⇑o->q.get? b=⇑o) :
  Inv (jf X N scope c s.heap.objs.size s H m (X.pn++i)) [] (sO jx h) H { s with heap:=q,toks:=C }:=by
 let k:∀ {x a},(jf X N scope c s.heap.objs.size s H m (X.pn++i)).env.cells.lookup x=⇑a->X.env.cells.lookup x=⇑a:=λ{x a} e=>d.sub x a e
 refine⟨⟨I.ok.mod,d.kind,I.ok.glob,I.ok.blt,fH _,λx F a e J=>I.ok.inj x F a (k e) (k J),λx F=>d.has x F,λx a z _=>(by cases z),I.ok.hd,I.ok.frames,.inl rfl,λb f=>⟨Nat.ne_of_lt (D b f),λx a e=>(n b f).2.2.2.2.1 x a (k e)⟩,I.bs,iC I.ok.TZ I.sz,λb o e f=>?_,λb f z=>?_,I.stack,I.Je⟩,1,I.bare,Un.kept j,⟨_,G,λw x v L g _=>?_⟩,λx a e=>?_,I.hok.fresh (fH _),λx a e=>I.rj x a (k e),λp M=>?_,I.hok.kept j,by unfold sO;rw[cC];exact d.len⟩
 ·rcases (n b f).2.2.2.1 with z|z
  ·exact I.ok.MV b o e z
  ·exact absurd (pP (Heap.lt_size (I.ok.bs b o e).1) z) (Nat.lt_irrefl _)
 ·rcases List.mem_cons.mp (I.u9 b z) with e|e
  ·exact (n b f).2.1 e
  ·exact (n b f).2.2.1 e
 ·unfold sO at g;rw[fK]at g
  cases r:jx[w]? with
  | none=>rw[r]at g;cases g
  | some o =>
   rw[r]at g
   cases o with
   | none=>cases g
   | some l =>
    let O:h[l]?=⇑(⇑v):=by
     let z:((h[l]?).join)=⇑v:=pQ g
     cases t:h[l]? with
     | none=>rw[t]at z;cases z
     | some f=>rw[t]at z;exact congrArg some z
    let⟨f,y,A⟩:=d.free w l x r L;let⟨r,w,g⟩:=I.loc;let⟨r,w,R⟩:=g l x v f O (.inr (.inl y));exists r,w;rcases R with ⟨f,_⟩|⟨_,a,S,o,t,u⟩
    ·let B:X.env.scope.names.lookup x=⇑.local:=f;rw[y]at B;cases B
    ·let⟨f,B⟩:=d.has x (.inl A);let z:=d.sub x f B;rw[S]at z;cases z;exact .inr ⟨.inl A,a,B,o,j _ _ t,u⟩
 ·let⟨v,o,t,u⟩:=I.cell x a (k e);exact⟨v,o,j _ _ t,u⟩
 ·let a:p∈X.pn++i:=by
   let z:p∈(X.pn++i)++[]:=M;simpa using z
  let⟨e,f,l,r,g⟩:=I.pin p a;refine⟨j _ _ e,f,jN (Heap.lt_size e),λz=>?_,g⟩;rcases List.mem_cons.mp (I.u9 p.1 z) with e|e
  ·exact l e
  ·exact r e
theorem vt{g j:_L2.St}{H h:Hp}{s i:Shared}{e:WF}(I:Inv X f g H s)(a:∀ b∈e,oj X f H b)(J:Inv (jf X N scope c s.heap.objs.size s H e (X.pn++f)) [] j h i):Inv X f g h i :=
 I.Yx (e:=e) J.os J.zt J.hok J.bare λb d=>⟨(a b d).2.2.2.1,(a b d).2.1,(a b d).2.2.2.2.1,(a b d).2.2.2.2.2⟩
def vv{h d:_L2.St}{H b:Hp}{s a:Shared}{f:Heap}(I:Inv X g h H s)(i:Inv X g d b a)(j:b s.heap.objs.size=none)(k:Heap.SameBut s.heap.objs.size a.heap f):Inv X g d b { a with heap:=f }:=by
 refine i.turned (t':=a.toks) (it:=s.heap.objs.size) (λl o c e=>k.extBut _ _ c e) j (Nat.ne_of_gt I.lt) (.inr I.sz) (λx c e z=>?_) λp l z=>?_
 ·let⟨v,o,m,_⟩:=I.cell x c e;exact absurd (Heap.lt_size m) (by rw[z];exact Nat.lt_irrefl _)
 ·exact absurd (Heap.lt_size (I.pin p l).1) (by rw[z];exact Nat.lt_irrefl _)
def qH(J:It)(d:Addr)(g:TG)(tt:TT)(h:TE)(j:_L2.St)(H:Hp)(Q:VK):Prop :=
 ∃ W:Nat->Nat->_L2.St->Hp->Prop,(∃ m,W 0 m j H)/\∀ i m b H,W i m b H->
  (J.stop i H/\Q ↥d H)\/(J.go i H/\∃ c:_L2.St->Hp->Prop,(∀ e a,c e a->∃ f,f<m/\W (i+1) f e a)/\∀ x a,J.M0 i H x a->g x b a fun b e=>tt b e λa e =>
   if a=true then h b e λv f=>∃ a,f d=⇑(.lst a)/\↑a<sizeLine/\c b (aL f d (.lst (a++[v]))) else c b e)
def vA(jx:List (Option Nat))(d:TI)(g:TG)(tt:TT)(e:TE):TE:=fun b H Q=>d b H λJ c=>∀ a,c a=none->qH J a g tt e (sO jx b) (aL c a (.lst [])) Q
theorem BN{t:Expr}{wi:TI}{ab:TG}{tt:TT}{te:TE}(m:BL X N scope c jx)(hc:X.calm=true)(hi:PI X M t wi)
  (hg:∀ C u v w y,PG (jf X N scope c C u v w y) M ab) (ht:∀ C u v w y,Lb (jf X N scope c C u v w y) jO tt) (he:∀ C u v w y,PE (jf X N scope c C u v w y) ki te)
  (hs:∀ x,foldedSetIterable t X.env x=pure x) {use:Option (Value->Sem Unit)} {O:ZB} {Q:VK} {h:List (Addr × Obj)} {s:Shared} {q:_L2.St} {U:Hp} (an:Inv X h q U s) (ap:vA jx wi ab tt te q U Q)
  (aq:∀ (a:Shared) (i:Hp) (e:WF) (ae:Addr) (n:_L2.St) (p:Hp) (z:Shared),Inv X h q i a->(∀ b∈e,oj X h i b)->Inv (jf X N scope c a.heap.objs.size a i e (X.pn++h)) [] n p z->Q ↥ae p->
   compPost (model X.prog X.w) X.A X.xe use O ↥ae a.heap.objs.size (.ok .next) z) :
  wpAny (model X.prog X.w) X.A (comprehension (.ListComp ki [⟨M,t,jO,0⟩] scope ar) scope X.env jc (newList []) false (eval t X.env) use) O X.xe s:=by
 refine wpAny_comprehension_free (use:=use) rfl hs m.clos m.kind m.names (dN (hi h s q U _ an ap) λag s1 h1=>dN h1 λYH g h2=>?_);let⟨it,e,F,aQ,G,f,I2,T,ai,f2,as⟩:=h2;subst f;refine wpAny_newObj_type (hd:=by size_fits) ?_;let cJ:G g.heap.objs.size=none:=I2.hok.fresh (fH _);let A:Inv X h q (aL G g.heap.objs.size (.lst [])) { g with heap:=g.heap.push { cls:=.type "list",data:=.seq ([]:WP).toArray },toks:=g.toks }:=I2.QW (ys:=[]) .nil (Nat.zero_le _)
 let ZE:∀ b∈e,b<g.heap.objs.size:=λb d=>by
  let⟨o,j,_⟩:=T.obj _ _ ai b d;exact Heap.lt_size j
 let l:∀ b∈e,oj X h (aL G g.heap.objs.size (.lst [])) b:=λb d=>⟨by rw[aK (jN (ZE b d))];exact (f2 b d).1,(f2 b d).2⟩;have k3:∀ b o,g.heap.get? b=⇑o->(g.heap.push { cls:=.type "list",data:=.seq ([]:WP).toArray }).get? b=⇑o:=λb o f=>Heap.get?_push_of_some _ f;have q3:=as _ cJ;generalize av:({ g with heap:=g.heap.push { cls:=.type "list",data:=.seq ([]:WP).toArray },toks:=g.toks }:Shared)=a at A;generalize as:aL G g.heap.objs.size (.lst [])=i at A l q3;have G:a.heap=g.heap.push { cls:=.type "list",data:=.seq ([]:WP).toArray }:=by rw[← av]
 let JQ:∀ b∈e,b<a.heap.objs.size:=λb d=>by rw[G,Heap.size_push];exact Nat.lt_succ_of_lt (ZE b d)
 let as:F 0 a.heap:=T.keep _ _ _ ai λb _ o f=>by rw[G];exact k3 b o f
 show wpAny _ _ _ _ _ a;refine wpAny_newFunctionEnv m.cell (λR j=>by simp at j) (λH MH RB=>?_) m.kind;let G:∀ b o,a.heap.get? b=⇑o->H.get? b=⇑o:=λb o f=>RB.extBut _ _ (jN (Heap.lt_size f)) (Heap.get?_push_of_some _ f);have J0:Inv (jf X N scope c a.heap.objs.size a i e (X.pn++h)) [] (sO jx q) i { a with heap:=H,toks:=a.toks+↑([]:List (Str × Value)) }:=wW m A l JQ MH G;have ZG:F 0 H:=T.keep _ _ _ as λb _ o f=>G b o f;let⟨W,⟨m0,w0⟩,mj⟩:=q3
 let S:∀ {j:Hp},(∀ b∈e,j b=none)->∀ b∈e,oj (jf X N scope c a.heap.objs.size a i e (X.pn++h)) [] j b:=λG b d=>by
  refine⟨G b d,jN (JQ b d),λk=>?_,.inl d,λx B f=>(l b d).2.2.2.2.1 x B (m.sub x B f),λr D=>?_⟩
  ·rcases List.mem_cons.mp (A.u9 b k) with f|f
   ·exact (l b d).2.1 f
   ·exact (l b d).2.2.1 f
  ·let B:r∈X.pn++h:=by
    let k:r∈(X.pn++h)++[]:=D;simpa using k
   exact (l b d).2.2.2.2.2 r B
 let ak:∀ G:Shared,G={ a with heap:=H,toks:=a.toks+↑([]:List (Str × Value)) }->codeAny (model X.prog X.w) X.A (.compLoop (.ListComp ki [⟨M,t,jO,0⟩] scope ar) 0 ↥it ↥g.heap.objs.size (jf X N scope c a.heap.objs.size a i e (X.pn++h)).env)
   (compPost (model X.prog X.w) X.A X.xe use O ↥g.heap.objs.size a.heap.objs.size) G:=by
  rintro G rfl;refine La (λI r=>∃ k B j,Inv (jf X N scope c a.heap.objs.size a i e (X.pn++h)) [] B j r/\F k r.heap/\(∀ b∈e,j b=none)/\W k I B j) ?_ m0 ⟨0,_,i,J0,ZG,λb d=>(l b d).1,w0⟩;rintro I s6 ⟨k,n,p,I6,Uh,GH,w6⟩;rcases mj k I n p w6 with ⟨stop,qn⟩|⟨go,Nx,hN,step⟩
  ·refine dN (T.done (jf X N scope c a.heap.objs.size a i e (X.pn++h)) rfl rfl rfl hc k [] s6 n p _ I6 (S GH) Uh stop) λaw z r=>?_;let⟨hr,D⟩:=r;subst hr;exact aq a i e _ n p z A l D qn
  ·refine dN (T.item (jf X N scope c a.heap.objs.size a i e (X.pn++h)) rfl rfl rfl hc k [] s6 n p _ I6 (S GH) Uh go) λaw z l=>?_;let⟨ax,hr,h7⟩:=l;subst hr;refine dN h7 λ_ H A=>?_;let⟨x,l,I8,r8,y8,G,Rl⟩:=A;have A:=I8.pinned (S Rl) (T.obj _ _ G);refine dN (hg _ _ _ _ _ _ H n l x ax _ A r8 (step x l y8)) λ_ l A=>?_;let⟨J,S,I9,q9⟩:=A;refine dN (ht _ _ _ _ _ _ l J S _ I9 q9) λok VQ l=>?_;let⟨AD,Ui,L⟩:=l
   let am:∀ {l:_L2.St} {A:Hp} {r:Shared},Inv (jf X N scope c a.heap.objs.size a i e (X.pn++h)) ([]++r9 e H.heap) l A r->Nx l A->∃ H,H<I/\∃ k B j,Inv (jf X N scope c a.heap.objs.size a i e (X.pn++h)) [] B j r/\F k r.heap/\(∀ b∈e,j b=none)/\W k H B j:=λ{l A r} D B=>by
    let⟨F,H,I⟩:=hN l A B;refine⟨F,H,k+1,l,A,D.nH,T.keep _ _ _ G λb d o f=>(D.pin (b,o) (nE _ (nE _ (iH d f)))).1,λb d=>?_,I⟩;let⟨o,f,k⟩:=T.obj _ _ G b d;exact (D.pin (b,o) (nE _ (nE _ (iH d f)))).2.1
   cases ok with
   | false =>
    rw[if_neg lT]at L;exact am Ui L
   | true =>
    rw[if_pos rfl]at L;refine dN (he _ _ _ _ _ _ VQ J AD _ Ui L) λag r d=>?_;let⟨R,f,k,aB,xs,hx,hz,aO⟩:=d;refine dN (bT _ r J f ↥g.heap.objs.size [R] ↥g.heap.objs.size [ag] (λ_ j=>Nx J j) k rfl (.cons aB .nil) ⟨_,xs,R,V,hx,hz,aO⟩) λ_ f d=>?_;let⟨_,j,f,_,g⟩:=d;exact am f g
 exact codeAny_compStart_list (ak _ rfl) (T.self _ _ _ _ _ ZG (ak _ rfl))
theorem N8{f:Expr}{h:TI}{i:TG}{tt:TT}{j:TE}(m:BL X N scope c jx)(n:X.calm=true)(o:PI X k f h)
  (p:∀ C a b d e,PG (jf X N scope c C a b d e) k i) (q:∀ C a b d e,Lb (jf X N scope c C a b d e) r tt) (t:∀ C a b d e,PE (jf X N scope c C a b d e) u j)
  (v:∀ x,foldedSetIterable f X.env x=pure x:=by intro _;rfl):PE X (.ListComp u [⟨k,f,r,0⟩] scope G) (vA jx h i tt j):=by
 intro l s w H Q I g;rw[eval_ListComp];refine BN (use:=none) m n o p q t v I g λB D F w H y I l z g A=>?_;let⟨B,D,_⟩:=g.loc;exact⟨B,D,λD B=>⟨↥w,y,vv l (vt l z g) g.free B,1,A⟩⟩
theorem RC{a:Expr}{r:Pos}{i:TI}{j:TG}{tt:TT}{k:TE}{l:Nat}{x:Str}(A:BL X N scope c jx)(B:X.calm=true)(G:X.N.Nodup)(H:X.N[l]?=⇑x)(t:X.env.scope.names.lookup x=⇑.local)(I:PI X g a i)
  (J:∀ C b d e f,PG (jf X N scope c C b d e f) g j) (L:∀ C b d e f,Lb (jf X N scope c C b d e f) m tt) (M:∀ C b d e f,PE (jf X N scope c C b d e f) n k)
  (O:swapsWith (.ListComp n [⟨g,a,m,0⟩] scope u) (⇑(.Name x o)) r.line X.env=pure true:=by rfl)
  (T:∀ x,foldedSetIterable a X.env x=pure x:=by intro _;rfl):PS X (.Assign [.Name x o] (.ListComp n [⟨g,a,m,0⟩] scope u) r) (MY (vA jx i j tt k) (pV l)):=by
 intro F s v R D S U;rw[exec_Assign_Name_used _ _ _ _ O];refine wpAny_bind (wpAny_standAt (wpAny_bind ?_));show wpAny _ X.A (do let _ ← comprehension (.ListComp n [⟨g,a,m,0⟩] scope u) scope X.env _ (newList []) false (eval a X.env) (⇑(assign (.Name x o) X.env))) _ _ s;let w:vA jx i j tt k v R (λy h=>pV l y v h D.nx):=U;refine wpAny_bind (dN (BN (use:=⇑(assign (.Name x o) X.env)) (O:=λ_ v=>∃ p h,Inv X F p h v/\D.nx p h) A B I J L M T S w λW R S D U H6 s7 h F p qn=>?_) λ_ v ab=>?_)
 ·let v:=vt h F p;let⟨ae,hm,_⟩:=p.loc;refine wpAny_assign_Name (Bd v G H (.inl t) (T:=↥D) rfl (λv I8 ⟨z,RB,q⟩=>?_) (.inr t))
  let na:W.heap.objs.size≠z:=by
   rcases q with rfl|q
   ·exact Nat.ne_of_gt h.lt
   ·intro D;let⟨y,v,y,_⟩:=h.cell x z q;exact absurd (Heap.lt_size y) (by rw[D];exact Nat.lt_irrefl _)
  refine⟨ae,hm.at' λv q=>RB.extBut _ v na q,λw q=>⟨_,H6,vv h I8 p.free q,qn⟩⟩
 ·exact wpAny_pure (wpAny_pure ab)
theorem gK{K:Frag}{h:Addr}{a:List V}{j:TG}{tt:TT}{k:TE}{l:_L2.St}{H:Hp}{Q:VK}(d:Nat->_L2.St->Hp->Prop)(r:d 0 l H)(t:∀ i b H,i<=↑a->d i b H->bL K H h a)
  (u:∀ i x b H,a[i]?=⇑x->d i b H->j x b H fun e v=>tt e v λw m=>if w=true then k e m λz n=>∃ f,n g=⇑(.lst f)/\↑f<sizeLine/\d (i+1) e (aL n g (.lst (f++[z]))) else d (i+1) e m)
  (A:∀ b H,d ↑a b H->Q ↥g H):qH (M4 K h) g j tt k l H Q:=by
 refine⟨λi o b H=>o=↑a-i/\i<=↑a/\d i b H,⟨↑a,by simp,Nat.zero_le _,r⟩,?_⟩;rintro i o b H ⟨rfl,o,p⟩;let q:=t i b H o p;by_cases o:i<↑a
 ·refine .inr ⟨⟨a,a[i],q,by simp[o]⟩,d (i+1),fun C s B=>⟨↑a-(i+1),by lia,1,o,B⟩,λx s y=>?_⟩;let⟨c,y⟩:=y;subst c;exact u i x b _ (y a q) p
 ·let c:i=↑a:=by lia
  subst c;exact .inl ⟨⟨a,q,fH _⟩,A b H p⟩
theorem qo{lo:Int}{k:Nat}{h:TG}{tt:TT}{j:TE}{l:_L2.St}{H:Hp}{Q:VK}(b:Nat->_L2.St->Hp->Prop)(q:b 0 l H)
  (r:∀ i a H,i<k->b i a H->h (.int (lo+i)) a H fun d t=>tt d t λu m=>if u=true then j d m λv n=>∃ e,n f=⇑(.lst e)/\↑e<sizeLine/\b (i+1) d (aL n f (.lst (e++[v]))) else b (i+1) d m)
  (w:∀ a H,b k a H->Q ↥f H):qH (Jj lo k) f h tt j l H Q:=by
 refine⟨λi o a H=>o=k-i/\i<=k/\b i a H,⟨k,by simp,Nat.zero_le _,q⟩,?_⟩;rintro i o a H ⟨rfl,o,p⟩;by_cases c:i<k
 ·refine .inr ⟨c,b (i+1),fun x o s=>⟨k-(i+1),by lia,1,c,s⟩,λx o y=>?_⟩;let⟨g,y⟩:=y;subst g y;exact r i a _ c p
 ·let g:i=k:=by lia
  subst g;exact .inl ⟨Nat.le_refl _,w a H p⟩
end
section
variable {X:Cx} {N:UV} {scope:Scope} {cl:List (Str × Addr)} {C:Addr} {s₀:Shared} {H₀:Hp} {ex:WF} {pn:List (Addr × Obj)}
theorem qI{a:List Expr}{k:Nat}{t:Vj}{n:Nat}(b:X.calm=true)(h:YE (jf X N scope cl C s₀ H₀ ex pn) a t)
  (c:↑(assignEach a (jf X N scope cl C s₀ H₀ ex pn).env)=n:=by rfl) (d:(assignEach a (jf X N scope cl C s₀ H₀ ex pn).env).findIdx? (·.1)=none:=by rfl):PG (jf X N scope cl C s₀ H₀ ex pn) (.Tuple a k e) (Vl X.K n t):=lg (X:=jf X N scope cl C s₀ H₀ ex pn) b h c d
theorem EJ{l:Expr}{a:TE}(b:PE (jf X N scope cl C s₀ H₀ ex pn) l a):PI (jf X N scope cl C s₀ H₀ ex pn) c l (T5 X.K a):=cM b
theorem JR:XY (jf X N scope cl C s₀ H₀ ex pn) (Y0 X.K):=aZ
theorem Hz:rm (jf X N scope cl C s₀ H₀ ex pn) (compareOp .NotIn) (eW X.K true):=tS
end
def CM{b:Cx}:jQ b (.type "range") (λa H Q=>∃ j:Int,a=[.int j]/\∀ p,H p=none->Q ↥p (aL H p (.D5 0 j))):=by
 intro c s d H a e Q I r h;let⟨j,rfl,q⟩:=h;let⟨f,rfl,⟨t,rfl⟩⟩:=r.one;refine call_range_1 ⟨↥s.heap.objs.size,_,I.laid (o:=.D5 0 j) (λc o e=>Heap.get?_push_of_some _ e) (fH _) ⟨Q,Heap.get?_push_size _ rfl⟩,1,q _ (I.hok.fresh (fH _))⟩
theorem vB{n:Scope}{d:Env}(y:∀ p∈n.names,p.2=.free->∃ c,d.cells.lookup p.1=⇑c) :
  ∃ a,closureFor n d=pure a/\(∀ x c,a.lookup x=⇑c->d.cells.lookup x=⇑c)/\(∀ p∈n.names,p.2=.free->∃ c,a.lookup p.1=⇑c):=by
 unfold closureFor
 let z:∀ (l:List (Str × NameKind)) (f:List (Str × Addr)),(∀ p∈l,p.2=.free->∃ c,d.cells.lookup p.1=⇑c)->(∀ x c,f.lookup x=⇑c->d.cells.lookup x=⇑c)->
   ∃ a,(forIn l f (λp r=>if (p.2 == NameKind.free)=true then do let c ← cellOf d p.1;pure (ForInStep.yield ((p.1,c)::r)) else pure (ForInStep.yield r)):Sem (List (Str × Addr)))=pure a/\(∀ x c,a.lookup x=⇑c->d.cells.lookup x=⇑c)/\(∀ p∈l,p.2=.free->∃ c,a.lookup p.1=⇑c)/\(∀ x c,f.lookup x=⇑c->∃ c,a.lookup x=⇑c):=by
  intro l
  induction l with
  | nil=>intro f _ o;exact⟨f,1,o,(λp g=>by cases g),λx c e=>⟨c,e⟩⟩
  | cons p l v =>
   intro f s o;rw[List.forIn_cons];by_cases g:p.2=.free
   ·let⟨c,w⟩:=s p rY g;let t:(p.2 == NameKind.free)=true:=by rw[g];rfl
    let l:cellOf d p.1=pure c:=by
     unfold cellOf;rw[w]
    rw[if_pos t,l];simp only[pure_bind]
    let⟨a,i,j,k,m⟩:=v ((p.1,c)::f) (λq b=>s q (kY _ b)) (λx u e=>by
     rw[List.lookup_cons]at e
     cases h:x == p.1 with
     | true =>
      rw[h]at e;cases e;rw[eq_of_beq h];exact w
     | false =>
      rw[h]at e
      exact o x u e)
    refine⟨a,i,j,λq b r=>?_,λx u e=>?_⟩
    ·rcases List.mem_cons.mp b with rfl|b
     ·exact m q.1 c (by rw[List.lookup_cons];simp)
     ·exact k q b r
    ·cases h:x == p.1 with
     | true=>exact m x c (by rw[List.lookup_cons,h])
     | false=>exact m x u (by rw[List.lookup_cons,h];exact e)
   ·let t:¬ (p.2 == NameKind.free)=true:=λe=>g (eq_of_beq e);rw[if_neg t];simp only[pure_bind];let⟨a,i,j,k,m⟩:=v f (λq b=>s q (kY _ b)) o;refine⟨a,i,j,λq b r=>?_,m⟩;rcases List.mem_cons.mp b with rfl|b
    ·exact absurd r g
    ·exact k q b r
 let⟨a,i,j,k,_⟩:=z n.names [] y (λx c e=>by cases e);refine⟨a,?_,j,k⟩;rw[← i];simp only[bind_pure]
theorem mG{a:Env}:∀ {f:List (Str × NameKind)} {x:Str} {k:NameKind},f.lookup x=⇑k->
  (f.map λ(n,k)=>if (k == NameKind.free&&a.scope.kind == .function&&a.kindOf n == some .cell) then (n,NameKind.cell) else (n,k)).lookup x=⇑(if (k == NameKind.free&&a.scope.kind == .function&&a.kindOf x == some .cell) then NameKind.cell else k)
 | [],_,_,h=>by cases h
 | (n,b)::r,x,k,h=>by
  rw[jv];by_cases d:(x == n)=true
  ·let e:x=n:=eq_of_beq d;subst e;rw[List.lookup_cons,d]at h;cases h;by_cases c:(b == NameKind.free&&a.scope.kind == .function&&a.kindOf x == some .cell)=true
   ·show List.lookup x ((if (b == NameKind.free&&a.scope.kind == .function&&a.kindOf x == some .cell)=true then (x,NameKind.cell) else (x,b))::_)=_;rw[if_pos c,if_pos c,List.lookup_cons,d]
   ·show List.lookup x ((if (b == NameKind.free&&a.scope.kind == .function&&a.kindOf x == some .cell)=true then (x,NameKind.cell) else (x,b))::_)=_;rw[if_neg c,if_neg c,List.lookup_cons,d]
  ·let e:(x == n)=false:=by simpa using d
   rw[List.lookup_cons,e]at h;let d:=mG (a:=a) h;show List.lookup x ((if (b == NameKind.free&&a.scope.kind == .function&&a.kindOf n == some .cell)=true then (n,NameKind.cell) else (n,b))::_)=_;by_cases c:(b == NameKind.free&&a.scope.kind == .function&&a.kindOf n == some .cell)=true
   ·rw[if_pos c,List.lookup_cons,e];exact d
   ·rw[if_neg c,List.lookup_cons,e];exact d
theorem lG{a:Env}:∀ {d:List (Str × NameKind)} {x:Str},d.lookup x=none->
  (d.map λ(n,k)=>if (k == NameKind.free&&a.scope.kind == .function&&a.kindOf n == some .cell) then (n,NameKind.cell) else (n,k)).lookup x=none
 | [],_,_=>rfl
 | (n,b)::r,x,h=>by
  rw[jv]
  let c:(x == n)=false:=by
   cases b:x == n with
   | false=>rfl
   | true=>rw[List.lookup_cons,b]at h;cases h
  rw[List.lookup_cons,c]at h;let e:=lG (a:=a) h;show List.lookup x ((if (b == NameKind.free&&a.scope.kind == .function&&a.kindOf n == some .cell)=true then (n,NameKind.cell) else (n,b))::_)=_;by_cases f:(b == NameKind.free&&a.scope.kind == .function&&a.kindOf n == some .cell)=true
  ·rw[if_pos f,List.lookup_cons,c];exact e
  ·rw[if_neg f,List.lookup_cons,c];exact e
structure BO(X:Cx)(N:UV)(scope:Scope)(jx:List (Option Nat)):Prop where
 kind:scope.kind=.function
 cell:∀ x∈scope.names,x.2≠.cell
 names:∀ x∈scope.names,x.2=.local->scope.names.lookup x.1=⇑.local
 xk:X.env.scope.kind=.function
 fr:∀ x∈scope.names,x.2=.free->X.env.scope.names.lookup x.1=⇑.cell
 len:↑jx=↑N
 free:∀ (i j:Nat) (x:Str),jx[i]?=⇑(⇑j)->N[i]?=⇑x->X.N[j]?=⇑x/\scope.names.lookup x=⇑.free
def Oa(a N:UV)(b:Scope)(c:List (Option Nat)):Bool:=(c.zip N).all λp=>match p.1 with
 | none=>true
 | some j=>decide (a[j]?=⇑p.2)&&decide (b.names.lookup p.2=⇑.free)
theorem kG{b:Cx}{N f:UV}{a c:Scope}{d:List (Option Nat)}(g:b.env.scope=c)(h:b.N=f)(k:a.kind=.function)(i:∀ x∈a.names,x.2≠.cell)(j:∀ x∈a.names,x.2=.local->a.names.lookup x.1=⇑.local)
  (l:c.kind=.function) (m:∀ x∈a.names,x.2=.free->c.names.lookup x.1=⇑.cell) (n:↑d=↑N) (e:Oa f N a d=true):BO b N a d:=by
 refine⟨k,i,j,by rw[g];exact l,by rw[g];exact m,n,λo p x q r=>?_⟩;rw[h];unfold Oa at e;rw[List.all_eq_true]at e;let z:=e (⇑p,x) (lK (i:=o) (by rw[List.getElem?_zip_eq_some];exact⟨q,r⟩));simp only[Bool.and_eq_true,decide_eq_true_eq]at z;exact z
section
variable {X:Cx} {N:UV} {scope:Scope} {jx:List (Option Nat)}
def BO.toF{g:_L2.St}{H:Hp}{s:Shared}(a:BO X N scope jx)(I:Inv X v g H s):∃ c,BL X N scope c jx:=by
 let⟨c,h,i,j⟩:=vB (n:=scope) (d:=X.env) λp l m=>I.ok.has p.1 (.inl (a.fr p l m))
 let n:∀ x,scope.names.lookup x=⇑.free->(relabel scope X.env).names.lookup x=⇑.cell:=λx b=>by
  let z:=mG (a:=X.env) b
  let d:(NameKind.free == NameKind.free&&X.env.scope.kind == .function&&X.env.kindOf x == some .cell)=true:=by
   let q:X.env.kindOf x=⇑.cell:=a.fr (x,.free) (PySem.mem_of_lookup b) rfl;rw[a.xk,q];rfl
  rw[if_pos d]at z;exact z
 refine⟨c,a.kind,a.cell,a.names,h,i,λx b=>?_,a.len,λo r x t u=>?_⟩
 ·cases e:scope.names.lookup x with
  | none =>
   let z:(relabel scope X.env).names.lookup x=none:=lG (a:=X.env) e;rw[z]at b
   rcases b with q|q <;> cases q
  | some k =>
   by_cases f:k=.free
   ·subst f;exact j (x,.free) (PySem.mem_of_lookup e) rfl
   ·let z:(relabel scope X.env).names.lookup x=⇑(if (k == NameKind.free&&X.env.scope.kind == .function&&X.env.kindOf x == some .cell) then NameKind.cell else k):=mG (a:=X.env) e
    let d:(k == NameKind.free)=false:=by
     cases q:k == NameKind.free with
     | false=>rfl
     | true=>exact absurd (eq_of_beq q) f
    rw[d]at z;simp only[Bool.false_and,Bool.false_eq_true,if_false]at z;rw[z]at b;rcases b with q|q
    ·cases q;exact absurd rfl (a.cell (x,.cell) (PySem.mem_of_lookup e))
    ·cases q;exact absurd rfl f
 ·let⟨b,d⟩:=a.free o r x t u;exact⟨b,a.fr (x,.free) (PySem.mem_of_lookup d) rfl,n x d⟩
theorem gS{f:Expr}{g:TI}{h:TG}{tt:TT}{i:TE}(k:BO X N scope jx)(l:X.calm=true)(m:PI X j f g)
  (n:∀ a C b c d e,PG (jf X N scope a C b c d e) j h) (o:∀ a C b c d e,Lb (jf X N scope a C b c d e) p tt) (q:∀ a C b c d e,PE (jf X N scope a C b c d e) r i)
  (t:∀ x,foldedSetIterable f X.env x=pure x:=by intro _;rfl):PE X (.ListComp r [⟨j,f,p,0⟩] scope z) (vA jx g h tt i):=by
 intro u s v H Q I w;let⟨a,y⟩:=k.toF I;exact N8 y l m (n a) (o a) (q a) t u s v H Q I w
theorem RD{f:Expr}{h:Pos}{i:TI}{j:TG}{tt:TT}{k:TE}{l:Nat}{x:Str}(o:BO X N scope jx)(p:X.calm=true)(q:X.N.Nodup)(r:X.N[l]?=⇑x)(t:X.env.scope.names.lookup x=⇑.local)(u:PI X g f i)
  (v:∀ a C b c d e,PG (jf X N scope a C b c d e) g j) (w:∀ a C b c d e,Lb (jf X N scope a C b c d e) m tt) (y:∀ a C b c d e,PE (jf X N scope a C b c d e) n k)
  (z:swapsWith (.ListComp n [⟨g,f,m,0⟩] scope A) (⇑(.Name x B)) h.line X.env=pure true:=by rfl)
  (D:∀ x,foldedSetIterable f X.env x=pure x:=by intro _;rfl):PS X (.Assign [.Name x B] (.ListComp n [⟨g,f,m,0⟩] scope A) h) (MY (vA jx i j tt k) (pV l)):=by
 intro F s G H J I L;let⟨a,M⟩:=o.toF I;exact RC M p q r t u (v a) (w a) (y a) z D F s G H J I L
end
end _cN
namespace _cN
open Spec Rows _L2
section
variable {X:Cx} {N:UV} {scope:Scope} {c:List (Str × Addr)} {jx:List (Option Nat)}
def EK(J:It)(d:Addr)(g:TG)(tt:TT)(h:TI)(j:TG)(k:TT)(l:TE)(n:_L2.St)(H:Hp)(Q:VK):Prop :=
 ∃ W:Nat->Nat->_L2.St->Hp->Prop,(∃ m,W 0 m n H)/\∀ i m c H,W i m c H->
  (J.stop i H/\Q ↥d H)\/(J.go i H/\∃ b:_L2.St->Hp->Prop,(∀ e a,b e a->∃ f,f<m/\W (i+1) f e a)/\∀ x a,J.M0 i H x a->g x c a fun c e=>tt c e λe a =>
   if e=true then Hu h d j k l c a b else b c a)
def JS(jx:List (Option Nat))(d:TI)(g:TG)(tt:TT)(e:TI)(f:TG)(h:TT)(i:TE):TE:=fun b H Q=>d b H λJ c=>∀ a,c a=none->EK J a g tt e f h i (sO jx b) (aL c a (.lst [])) Q
theorem HB{y:Expr}{wi Hv:TI}{ae g2:TG}{tt Hw:TT}{te:TE}(r:BL X N scope c jx)(M:X.calm=true)(hi:PI X O y wi)
  (hg:∀ C j k l m,PG (jf X N scope c C j k l m) O ae) (ht:∀ C j k l m,Lb (jf X N scope c C j k l m) jO tt) (X6:∀ C j k l m,PI (jf X N scope c C j k l m) U eL Hv) (ap:∀ C j k l m,PG (jf X N scope c C j k l m) U g2) (EL:∀ C j k l m,Lb (jf X N scope c C j k l m) jk Hw) (he:∀ C j k l m,PE (jf X N scope c C j k l m) ki te)
  (hs:∀ x,foldedSetIterable y X.env x=pure x) (GD:∀ (aq:Env) x,foldedSetIterable eL aq x=pure x) {use:Option (Value->Sem Unit)} {Q':ZB} {Q:VK} {g:List (Addr × Obj)} {s:Shared} {v:_L2.St} {ab:Hp} (ar:Inv X g v ab s) (as:JS jx wi ae tt Hv g2 Hw te v ab Q)
  (av:∀ (a:Shared) (h:Hp) (e:WF) (ag:Addr) (t:_L2.St) (u:Hp) (z:Shared),Inv X g v h a->(∀ b∈e,oj X g h b)->Inv (jf X N scope c a.heap.objs.size a h e (X.pn++g)) [] t u z->Q ↥ag u->
   compPost (model X.prog X.w) X.A X.xe use Q' ↥ag a.heap.objs.size (.ok .next) z) :
  wpAny (model X.prog X.w) X.A (comprehension (.ListComp ki [⟨O,y,jO,0⟩,⟨U,eL,jk,0⟩] scope aw) scope X.env jc (newList []) false (eval y X.env) use) Q' X.xe s:=by
 refine wpAny_comprehension_free (use:=use) rfl hs r.clos r.kind r.names (dN (hi g s v ab _ ar as) λaQ s1 h1=>dN h1 λYH i h2=>?_);let⟨it,e,G,aQ,H,f,S,T,ai,f2,ax⟩:=h2;subst f;refine wpAny_newObj_type (hd:=by size_fits) ?_;let cJ:H i.heap.objs.size=none:=S.hok.fresh (fH _);let A:Inv X g v (aL H i.heap.objs.size (.lst [])) { i with heap:=i.heap.push { cls:=.type "list",data:=.seq ([]:WP).toArray },toks:=i.toks }:=S.QW (ys:=[]) .nil (Nat.zero_le _)
 let ZE:∀ b∈e,b<i.heap.objs.size:=λb d=>by
  let⟨o,n,_⟩:=T.obj _ _ ai b d;exact Heap.lt_size n
 let q:∀ b∈e,oj X g (aL H i.heap.objs.size (.lst [])) b:=λb d=>⟨by rw[aK (jN (ZE b d))];exact (f2 b d).1,(f2 b d).2⟩;have k3:∀ b o,i.heap.get? b=⇑o->(i.heap.push { cls:=.type "list",data:=.seq ([]:WP).toArray }).get? b=⇑o:=λb o f=>Heap.get?_push_of_some _ f;have q3:=ax _ cJ;generalize aB:({ i with heap:=i.heap.push { cls:=.type "list",data:=.seq ([]:WP).toArray },toks:=i.toks }:Shared)=a at A;generalize S:aL H i.heap.objs.size (.lst [])=h at A q q3;have H:a.heap=i.heap.push { cls:=.type "list",data:=.seq ([]:WP).toArray }:=by rw[← aB]
 let S:∀ b∈e,b<a.heap.objs.size:=λb d=>by rw[H,Heap.size_push];exact Nat.lt_succ_of_lt (ZE b d)
 let ax:G 0 a.heap:=T.keep _ _ _ ai λb _ o f=>by rw[H];exact k3 b o f
 show wpAny _ _ _ _ _ a;refine wpAny_newFunctionEnv r.cell (λp n=>by simp at n) (λI MH RB=>?_) r.kind;let H:∀ b o,a.heap.get? b=⇑o->I.get? b=⇑o:=λb o f=>RB.extBut _ _ (jN (Heap.lt_size f)) (Heap.get?_push_of_some _ f);have J0:Inv (jf X N scope c a.heap.objs.size a h e (X.pn++g)) [] (sO jx v) h { a with heap:=I,toks:=a.toks+↑([]:List (Str × Value)) }:=wW r A q S MH H;have ZG:G 0 I:=T.keep _ _ _ ax λb _ o f=>H b o f;let⟨W,⟨m0,w0⟩,mj⟩:=q3
 let R:∀ {n:Hp},(∀ b∈e,n b=none)->∀ b∈e,oj (jf X N scope c a.heap.objs.size a h e (X.pn++g)) [] n b:=λH b d=>by
  refine⟨H b d,jN (S b d),λp=>?_,.inl d,λx B f=>(q b d).2.2.2.2.1 x B (r.sub x B f),λw D=>?_⟩
  ·rcases List.mem_cons.mp (A.u9 b p) with f|f
   ·exact (q b d).2.1 f
   ·exact (q b d).2.2.1 f
  ·let B:w∈X.pn++g:=by
    let p:w∈(X.pn++g)++[]:=D;simpa using p
   exact (q b d).2.2.2.2.2 w B
 let ak:∀ H:Shared,H={ a with heap:=I,toks:=a.toks+↑([]:List (Str × Value)) }->codeAny (model X.prog X.w) X.A (.compLoop (.ListComp ki [⟨O,y,jO,0⟩,⟨U,eL,jk,0⟩] scope aw) 0 ↥it ↥i.heap.objs.size (jf X N scope c a.heap.objs.size a h e (X.pn++g)).env)
   (compPost (model X.prog X.w) X.A X.xe use Q' ↥i.heap.objs.size a.heap.objs.size) H:=by
  rintro H rfl;refine Rk (λJ i=>∃ p w n,Inv (jf X N scope c a.heap.objs.size a h e (X.pn++g)) [] w n i/\G p i.heap/\(∀ b∈e,n b=none)/\W p J w n) (GD _) ?_ m0 ⟨0,_,h,J0,ZG,λb d=>(q b d).1,w0⟩;rintro J s6 ⟨p,t,u,I6,Uh,GH,w6⟩;rcases mj p J t u w6 with ⟨stop,qn⟩|⟨go,Nx,hN,step⟩
  ·refine dN (T.done (jf X N scope c a.heap.objs.size a h e (X.pn++g)) rfl rfl rfl M p [] s6 t u _ I6 (R GH) Uh stop) λam z i=>?_;let⟨B,D⟩:=i;subst B;exact av a h e _ t u z A q D qn
  ·refine dN (T.item (jf X N scope c a.heap.objs.size a h e (X.pn++g)) rfl rfl rfl M p [] s6 t u _ I6 (R GH) Uh go) λam z i=>?_;let⟨aO,B,h7⟩:=i;subst B;refine dN h7 λ_ H q=>?_;let⟨x,i,I,S,y8,A,Rl⟩:=q;have q:=I.pinned (R Rl) (T.obj _ _ A);refine dN (hg _ _ _ _ _ _ H t i x aO _ q S (step x i y8)) λ_ i q=>?_;let⟨I,R,S,q9⟩:=q;refine dN (ht _ _ _ _ _ _ i I R _ S q9) λok q i=>?_;let⟨q,Ui,L⟩:=i
   let an:∀ {i:_L2.St} {q:Hp} {F:Shared},Inv (jf X N scope c a.heap.objs.size a h e (X.pn++g)) ([]++r9 e H.heap) i q F->Nx i q->∃ H,H<J/\∃ p w n,Inv (jf X N scope c a.heap.objs.size a h e (X.pn++g)) [] w n F/\G p F.heap/\(∀ b∈e,n b=none)/\W p H w n:=λ{i q F} D G=>by
    let⟨H,I,J⟩:=hN i q G;refine⟨H,I,p+1,i,q,D.nH,T.keep _ _ _ A λb d o f=>(D.pin (b,o) (nE _ (nE _ (iH d f)))).1,λb d=>?_,J⟩;let⟨o,f,i⟩:=T.obj _ _ A b d;exact (D.pin (b,o) (nE _ (nE _ (iH d f)))).2.1
   cases ok with
   | false =>
    rw[if_neg lT]at L;exact an Ui L
   | true =>
    rw[if_pos rfl]at L;refine dN (Lh (Y:=jf X N scope c a.heap.objs.size a h e (X.pn++g)) M rfl (X6 _ _ _ _ _) (ap _ _ _ _ _) (EL _ _ _ _ _) (he _ _ _ _ _) Ui L) λx F d=>dN d λf i d=>codeAny_mono d λam i ⟨B,w,n,d,f⟩=>⟨B,an d f⟩
 exact codeAny_compStart_list (ak _ rfl) (T.self _ _ _ _ _ ZG (ak _ rfl))
theorem vC{f:Expr}{r:Pos}{h i:TI}{j k:TG}{tt l:TT}{m:TE}(t:BO X N scope jx)(u:X.calm=true)(v:PI X n f h)
  (w:∀ c C a b d e,PG (jf X N scope c C a b d e) n j) (y:∀ c C a b d e,Lb (jf X N scope c C a b d e) z tt)
  (A:∀ c C a b d e,PI (jf X N scope c C a b d e) o p i) (B:∀ c C a b d e,PG (jf X N scope c C a b d e) o k) (D:∀ c C a b d e,Lb (jf X N scope c C a b d e) G l) (H:∀ c C a b d e,PE (jf X N scope c C a b d e) J m)
  (L:∀ x,foldedSetIterable f X.env x=pure x:=by intro _;rfl) (M:∀ (O:Env) x,foldedSetIterable p O x=pure x:=by intro _ _;rfl) :
  PE X (.ListComp J [⟨n,f,z,0⟩,⟨o,p,G,0⟩] scope r) (JS jx h j tt i k l m):=by
 intro q s F R Q I g;let⟨c,q⟩:=t.toF I;rw[eval_ListComp];refine HB (use:=none) q u v (w c) (y c) (A c) (B c) (D c) (H c) L M I g λT U W F ab I s7 q R g S=>?_;let⟨T,U,_⟩:=g.loc;exact⟨T,U,λU T=>⟨↥F,I,vv q (vt q R g) g.free T,1,S⟩⟩
theorem qp{K:Frag}{f:Addr}{a:List V}{g:TG}{tt:TT}{h:TI}{j:TG}{k:TT}{l:TE}{m:_L2.St}{H:Hp}{Q:VK}(d:Nat->_L2.St->Hp->Prop)(t:d 0 m H)(u:∀ i b H,i<=↑a->d i b H->bL K H f a)
  (v:∀ i x b H,a[i]?=⇑x->d i b H->g x b H fun e w=>tt e w λz n=>if z=true then Hu h o j k l e n (d (i+1)) else d (i+1) e n)
  (A:∀ b H,d ↑a b H->Q ↥o H):EK (M4 K f) o g tt h j k l m H Q:=by
 refine⟨λi r b H=>r=↑a-i/\i<=↑a/\d i b H,⟨↑a,by simp,Nat.zero_le _,t⟩,?_⟩;rintro i r b H ⟨rfl,r,p⟩;let q:=u i b H r p;by_cases r:i<↑a
 ·refine .inr ⟨⟨a,a[i],q,by simp[r]⟩,d (i+1),fun C s B=>⟨↑a-(i+1),by lia,1,r,B⟩,λx s y=>?_⟩;let⟨c,y⟩:=y;subst c;exact v i x b _ (y a q) p
 ·let c:i=↑a:=by lia
  subst c;exact .inl ⟨⟨a,q,fH _⟩,A b H p⟩
theorem zj{K:Frag}{j:Addr}{b:List V}{t:TG}{tt:TT}{u:TE}{a:_L2.St}{H:Hp}{w:_L2.St->Hp->Prop}(e:Nat->_L2.St->Hp->Prop)(B:e 0 a H)(C:∀ i a H,i<=↑b->e i a H->bL K H j b)
  (D:∀ i x a H,b[i]?=⇑x->e i a H->t x a H fun d k=>tt d k λl g=>if l=true then u d g λv h=>∃ n,h o=⇑(.lst n)/\↑n<sizeLine/\e (i+1) d (aL h o (.lst (n++[v]))) else e (i+1) d g)
  (G:∀ a H,e ↑b a H->w a H):∃ W:Nat->Nat->_L2.St->Hp->Prop,(∃ m,W 0 m a H)/\∀ i m a H,W i m a H->
  ((M4 K j).stop i H/\w a H)\/((M4 K j).go i H/\∃ p:_L2.St->Hp->Prop,(∀ q f,p q f->∃ z,z<m/\W (i+1) z q f)/\∀ x f,(M4 K j).M0 i H x f->t x a f fun d k=>tt d k λl g =>
   if l=true then u d g λv h=>∃ b,h o=⇑(.lst b)/\↑b<sizeLine/\p d (aL h o (.lst (b++[v]))) else p d g):=by
 refine⟨λi m a H=>m=↑b-i/\i<=↑b/\e i a H,⟨↑b,by simp,Nat.zero_le _,B⟩,?_⟩;rintro i m a H ⟨rfl,A,c⟩;let r:=C i a H A c;by_cases A:i<↑b
 ·refine .inr ⟨⟨b,b[i],r,by simp[A]⟩,e (i+1),fun q f F=>⟨↑b-(i+1),by lia,1,A,F⟩,λx f y=>?_⟩;let⟨s,y⟩:=y;subst s;exact D i x a _ (y b r) c
 ·let s:i=↑b:=by lia
  subst s;exact .inl ⟨⟨b,r,fH _⟩,G a H c⟩
end
end _cN
namespace _cN
open Spec Rows _L2
open AutoSeq1 (wpAny_loadPart')
section
variable {prog:Program} {w:World} {A:Around} {E:ZB} {s:Shared} {κ:Type} [DecidableEq κ] {knd:KeyKind prog w κ}
def Lm{d:Addr}{Q:Bool->Shared->Prop}(a:s.TypeIs ↥d "dict")(h:Q false s):wpAny (model prog w) A (Builtin.List.listLengthHint ↥d) Q E s:=by
 unfold Builtin.List.listLengthHint;refine wpAny_bind (wpAny_specialOf a F.slot_dict_len.lookup ?_);generalize b:("dict.__len__":String)=c
 wp_delta
 rw[show splitId c=⇑("dict","__len__") by subst b;decide +kernel];subst b;refine wpAny_bind (wpAny_isInstance (T:="dict") (b:=true) a (by rw[isSubtype_type];kernel_rfl) ?_);refine wpAny_ite_split (λq=>absurd q (by decide)) λ_=>?_;refine wpAny_ite_split (λ_=>?_) λq=>absurd nofun q;exact wpAny_bind (wpAny_typeOf a (wpAny_pure h))
theorem EN{k:X2}{d:Addr}{c:List (κ × Value)}{h:Nat}(H:A.handled=none)(I:(d == sysModules)=false)(j:s.heap.DictAt knd d c h)(J:↑c<=sizeLine)(a:Addr)(n:Value)(L:Nat)(p:s.heap.get? a=some { cls:=.type "list",data:=.seq #[] L })
  (M:∀ q N l i,(∀ b o,b≠a->s.heap.get? b=⇑o->q.get? b=⇑o)->q.get? a=some { cls:=.type "list",dict:=none,data:=.seq l i,slots:=#[] }->
   ItemsOf (λO T=>∃ x U,c[O]?=⇑(x,U)/\knd.is x T=true) l ↑c->k (.ok (.ret n)) { s with heap:=q,toks:=N }) :
  wpAny (model prog w) A.in1 (Builtin.List.listExtendWith ↥a ↥d n)
   (λab g=>match ab with|.done ae=>k (.ok ae) g|.again i=>i.quiet=true/\codeAny (model prog w) A i k g) (λe g=>k (.error e) g) s:=by
 let y:s.TypeIs ↥d "dict":=by
  let⟨o,m,f,t,_⟩:=j;exact⟨o,f,t.1⟩
 let r:a≠d:=λe=>by
  let⟨o,m,f,t,u,_⟩:=j;rw[← e,p]at f;cases f;cases u
 let R:a<s.heap.objs.size:=Heap.lt_size p
 let S:d<s.heap.objs.size:=by
  let⟨o,m,f,_⟩:=j;exact Heap.lt_size f
 let B:a≠s.heap.objs.size:=jN R;let R:d≠s.heap.objs.size:=jN S;let W:=(Walks.dictKeys (prog:=prog) (w:=w) (A:=A.in1) (knd:=knd) H s.heap.objs.size d R c h).toS;unfold Builtin.List.listExtendWith;refine wpAny_bind (wpAny_typeOf y ?_);let R:Builtin.List.listSameRef ↥a ↥d=false:=by simp[Builtin.List.listSameRef,r]
 let S:(Value.type "dict" == Value.type "list")=false:=by decide
 let X:(Value.type "dict" == Value.type "tuple")=false:=by decide
 simp only[R,S,X,Bool.or_false,Bool.false_eq_true,if_false];refine wpAny_bind (wpAny_pyIter_dict I j ?_);let C:(s.heap.push { cls:=.type "dict_keyiterator",data:=.fields (List.toArray [↥d,.int 0 0,.int ↑c 0,.int h 0]) }).IsKeyIter s.heap.objs.size d 0 ↑c h:=⟨_,Heap.get?_push_size _ rfl,V⟩;let jj:∀ b o,s.heap.get? b=⇑o->(s.heap.push { cls:=.type "dict_keyiterator",data:=.fields (List.toArray [↥d,.int 0 0,.int ↑c 0,.int h 0]) }).get? b=⇑o:=λb o e=>Heap.get?_push_of_some _ e;generalize s.heap.push { cls:=.type "dict_keyiterator",data:=.fields (List.toArray [↥d,.int 0 0,.int ↑c 0,.int h 0]) }=t at C jj
 let R:({ s with heap:=t }:Shared).TypeIs ↥d "dict":=by
  let⟨o,f,m⟩:=y;exact⟨o,jj _ _ f,m⟩
 refine wpAny_bind (wpAny_holding (Lm R ?_));refine wpAny_ite_split (λ_=>?_) λu=>absurd nofun u;refine wpAny_bind (wpAny_rule (wpAny_bind ?_));show wpAny _ A.in1 (updateSeq a (λz=>z.push .none) >>= λ_=>updateSeq a λz=>z.pop) _ _ _;have D:=jj _ _ p;refine wpAny_bind (wpAny_updateSeq D rfl ?_);have G:=Heap.get?_update_self (Obj.mapSeq λz=>z.push Value.none) D rfl;refine wpAny_updateSeq (hz:=by seq_fits) G rfl ?_;have ag:=Heap.get?_update_self (Obj.mapSeq λz=>z.pop) G rfl
 let v:∀ b o,b≠a->t.get? b=⇑o->((t.update a (Obj.mapSeq λz=>z.push Value.none)).update a (Obj.mapSeq λz=>z.pop)).get? b=⇑o:=λb o f e =>
  (Heap.get?_update_other _ _ f.symm).trans ((Heap.get?_update_other _ _ f.symm).trans e)
 refine wpAny_pure ⟨plainId_quiet F.plain_extend_loop _,codeAny_extend_loopS W J a (λm=>?_) n ↑c 0 _ #[] _ rfl (Nat.zero_le _) ⟨C.at λo e=>v _ o B.symm e,(j.at' λo e=>v _ o r.symm (jj _ o e))⟩ ag (ItemsOf.nil _) λg l i m ai cJ=>?_⟩
 ·rcases List.mem_cons.mp m with e|e
  ·exact B e
  ·exact r (List.mem_singleton.mp e)
 ·rw[Moved.eq_with m];refine M g.heap g.toks l i (λb o f e=>m.heap b o (λu=>?_) (v b o f (jj b o e))) ai cJ;rcases List.mem_cons.mp u with z|z
  ·exact f z
  ·exact absurd (Heap.lt_size e) (by rw[List.mem_singleton.mp z];exact Nat.lt_irrefl _)
theorem zk{Q:ZB}{d:Addr}{a:List (κ × Value)}{j:Nat}(n:A.handled=none)(p:(d == sysModules)=false)(k:s.heap.DictAt knd d a j)(q:↑a<=sizeLine)
  (r:∀ c h f i,(∀ b o,s.heap.get? b=⇑o->c.get? b=⇑o)->c.get? s.heap.objs.size=some { cls:=.type "list",dict:=none,data:=.seq f i,slots:=#[] }->
   ItemsOf (λt v=>∃ l x,a[t]?=⇑(l,x)/\knd.is l v=true) f ↑a->Q ↥s.heap.objs.size { s with heap:=c,toks:=h }) :
  wpAny (model prog w) A (call (.type "list") [↥d]) Q E s:=by
 refine callType_codes (Q₁:=λu m=>u=↥s.heap.objs.size/\m={ s with heap:=s.heap.push { cls:=.type "list",data:=.seq #[] } }) F.called_list (F.typeCall_list_1 _) F.entry_list_init (code_list_new _ ⟨V⟩) λu m y=>?_;let⟨rfl,rfl⟩:=y;have g:(s.heap.push { cls:=.type "list",data:=.seq #[] }).get? s.heap.objs.size=some { cls:=.type "list",data:=.seq #[] }:=Heap.get?_push_size _ rfl;have z:(s.heap.push { cls:=.type "list",data:=.seq #[] }).DictAt knd d a j:=k.at' λo e=>Heap.get?_push_of_some _ e
 let B:d≠s.heap.objs.size:=by
  let⟨o,u,m,_⟩:=k;exact jN (Heap.lt_size m)
 exists ⟨_,g,1⟩,F.args_list_init_2 _ _;show wpAny _ _ (do let old ← Builtin.List.listItems ↥s.heap.objs.size;Builtin.List.listUpdate ↥s.heap.objs.size (λ_=>#[]);letGo old.toList.reverse;Builtin.List.listExtendWith ↥s.heap.objs.size ↥d .none) _ _ _;refine wpAny_bind ?_;unfold Builtin.List.listItems;refine wpAny_bind (wpAny_seqItems g rfl (wpAny_pure ?_));show wpAny _ _ (updateSeq s.heap.objs.size (λ_=>#[]) >>= λ_=>letGo (#[]:Xt).toList.reverse >>= λ_=>Builtin.List.listExtendWith ↥s.heap.objs.size ↥d .none) _ _ _;refine wpAny_bind (wpAny_updateSeq g rfl ?_);let C:=Heap.get?_update_self (Obj.mapSeq λ_=>(#[]:Xt)) g rfl;let g:∀ b o,b≠s.heap.objs.size->(s.heap.push { cls:=.type "list",data:=.seq #[] }).get? b=⇑o->((s.heap.push { cls:=.type "list",data:=.seq #[] }).update s.heap.objs.size (Obj.mapSeq λ_=>(#[]:Xt))).get? b=⇑o:=λb o m e=>(Heap.get?_update_other _ _ m.symm).trans e;refine wpAny_bind (wpAny_letGo ?_);refine EN (A:=A.in1) (knd:=knd) n p (z.at' λo e=>g _ o B e) q s.heap.objs.size .none _ C λc h f i m u y=>?_;exact⟨1,r c h f i (λb o e=>m b o (jN (Heap.lt_size e)) (g b o (jN (Heap.lt_size e)) (Heap.get?_push_of_some _ e))) u y⟩
end
def HC{f:Cx}(w:f.calm=true):jQ f (.type "list") (λi H Q=>∃ (d:Addr) (a:List (fR × V)),i=[↥d]/\H d=⇑(.dK a)/\∀ l,H l=none->Q ↥l (aL H l (.lst (a.map λp=>kV p.1)))):=by
 intro B s C H i b Q I r y;let⟨d,a,rfl,z,q⟩:=y;let⟨u,rfl,A⟩:=r.one;cases (show u=Value.ref d from A);let⟨y,A,c,e,B,C,U,D,F⟩:=(show gA f.prog f.w H s.heap d (.dK a) from I.hok d _ z);let z:=↑e;refine zk (I.ok.hd w) A ⟨B,C,D,F⟩ ∅ λD z m A B C n=>?_;refine⟨↥s.heap.objs.size,_,I.laid (o:=.lst (a.map λp=>kV p.1)) (t':=z) B (fH _) ⟨by rw[cC];exact y,m.toList,A,?_,by simpa using C⟩,1,q _ (I.hok.fresh (fH _))⟩
 let G:∀ (a:List (fR × V)) (c:List (fR × Value)) (b:WP),KV a c->↑b=↑c->(∀ (j:Nat) (v:Value),b[j]?=⇑v->∃ k x,c[j]?=⇑(k,x)/\xZ k v=true)->cE (a.map λp=>kV p.1) b:=by
  intro a
  induction a with
  | nil =>
   intro c b e g _;cases e
   cases b with
   | nil=>exact .nil
   | cons=>simp at g
  | cons p r J =>
   intro c b e g o
   cases e with
   | @cons _ q _ L M N =>
   cases b with
   | nil=>simp at g
   | cons u b =>
    let⟨k,x,O,R⟩:=o 0 u rfl;let S:q=(k,x):=by simpa using O
    subst S;refine .cons ?_ (J L b N (by simpa using g) λj v h=>?_)
    ·show _L2.RelV (kV p.1) u;rw[show p.1=k from M.1];rcases fT R with ⟨T,t,rfl,rfl⟩|⟨T,t,rfl,rfl⟩
     ·exact⟨t,1⟩
     ·exact⟨t,1⟩
    ·let⟨b,g,k,q⟩:=o (j+1) v (by simpa using h);exact⟨b,g,by simpa using k,q⟩
 exact G a c m.toList e (by simpa using n.1) λj v h=>n.2 j v (by simpa using h)
end _cN
namespace _vD
open Spec Rows _L2 _cN _gI
end _vD
namespace _gI
open Spec Rows _L2 _cN _fG _vD
inductive cG{α β:Type}(R:α->β->Prop):List α->List β->Prop
 | nil:cG R [] []
 | cons {a:α} {b:β} {c:List α} {d:List β}:R a b->cG R c d->cG R (a::c) (b::d)
section
variable {α β:Type} {R R':α->β->Prop} {d:List α} {c:List β} {a:α} {b:β}
def cG.len{d:List α}{c:List β}(h:cG R d c):↑d=↑c:=by
 induction h with
 | nil=>rfl
 | cons _ _ a=>rw[fE,fE,a]
theorem cG.get:∀ {d:List α} {c:List β} {i:Nat},cG R d c->d[i]?=⇑a->∃ b,c[i]?=⇑b/\R a b
 | _,_,_,.nil,h=>by simp at h
 | _,_,0,.cons r _,h=>by simp at h;subst h;exact⟨Y,r⟩
 | _,_,i+1,.cons _ t,h=>by simp at h;simpa using t.get h
theorem cG.get':∀ {d:List α} {c:List β} {i:Nat},cG R d c->c[i]?=⇑b->∃ a,d[i]?=⇑a/\R a b
 | _,_,_,.nil,h=>by simp at h
 | _,_,0,.cons r _,h=>by simp at h;subst h;exact⟨Y,r⟩
 | _,_,i+1,.cons _ t,h=>by simp at h;simpa using t.get' h
def cG.snoc{d:List α}{c:List β}(t:cG R d c)(h:R a b):cG R (d++[a]) (c++[b]):=by
 induction t with
 | nil=>exact .cons h .nil
 | cons r _ e=>exact .cons r e
def cG.mono{d:List α}{c:List β}(h:∀ a b,R a b->R' a b)(t:cG R d c):cG R' d c:=by
 induction t with
 | nil=>exact .nil
 | cons r _ e=>exact .cons (h _ _ r) e
theorem cG.set:∀ {d:List α} {c:List β} (i:Nat),cG R d c->R a b->cG R (d.set i a) (c.set i b)
 | _,_,_,.nil,_=>.nil
 | _,_,0,.cons _ t,h=>.cons h t
 | _,_,i+1,.cons r t,h=>.cons r (t.set i h)
theorem cG.split:∀ {d:List α} {c:List β},cG R d (c++[b])->∃ e a,d=e++[a]/\cG R e c/\R a b
 | _,[],.cons r .nil=>⟨[],Y,.nil,r⟩
 | _,f::c,.cons r t=>by
  let⟨e,a,rfl,f,g⟩:=t.split;exact⟨_::e,a,1,.cons r f,g⟩
end
inductive aY where
 | win (n:Int)
 | aF (a b:Int)
def HD:aY->List V
 | .win n=>[.str "win",.int n]
 | .aF a b=>[.str "ink",.int a,.int b]
def dP(H:Hp)(v:V)(b:aY):Prop:=∃ a,v=↥a/\H a=⇑(.tup (HD b))
theorem dP.same{H a:Hp}{v:V}{b:aY}(s:aJ H a):dP H v b->dP a v b:=λ⟨c,e,h⟩=>⟨c,e,s _ _ h⟩
theorem dP.keep{H a:Hp}{v:V}{b:aY}{q:Addr}{d:List V}(e:H q=⇑(.lst d))(k:cF q H a):dP H v b->dP a v b:=λ⟨c,f,h⟩=>⟨c,f,k c _ h (by
 intro z;rw[z,e]at h
 cases h)⟩
def b8(H:Hp)(v:V)(c:List aY):Prop:=∃ a b,v=↥a/\H a=⇑(.lst b)/\cG (dP H) b c
theorem b8.same{H a:Hp}{v:V}{b:List aY}(s:aJ H a):b8 H v b->b8 a v b:=λ⟨c,d,e,h,t⟩=>⟨c,d,e,s _ _ h,t.mono λ_ _=>dP.same s⟩
def iu(H:Hp)(r:Addr)(b:List (List aY)):Prop:=∃ a,H r=⇑(.lst a)/\cG (b8 H) a b
theorem iu.same{H a:Hp}{r:Addr}{b:List (List aY)}(s:aJ H a):iu H r b->iu a r b:=λ⟨c,h,t⟩=>⟨c,s _ _ h,t.mono λ_ _=>b8.same s⟩
def bK(t:List aY)(e:Int):List aY :=
 if e<0 then t++[.win (-1-e)] else
 match t.getLast? with
 | some (.aF a b)=>if b=e then t.dropLast++[.aF a (e+1)] else t++[.aF e (e+1)]
 | _=>t++[.aF e (e+1)]
def aI(a:Wp):List aY:=a.foldl bK []
def fO(a:List aY):Wp:=a.filterMap λb=>match b with|.win n=>⇑n|.aF _ _=>none
def eU(a:Wp):Wp:=a.filterMap λe=>if e<0 then some (-1-e) else none
def gM(a b:List aY):fO (a++b)=fO a++fO b:=by unfold fO;rw[List.filterMap_append]
def Lo(t:List aY)(e:Int):fO (bK t e)=fO t++(if e<0 then [-1-e] else []):=by
 unfold bK;by_cases h:e<0
 ·rw[if_pos h,if_pos h,gM];rfl
 ·rw[if_neg h,if_neg h,gV];rcases l6 t with rfl|⟨c,l,rfl⟩
  ·rfl
  ·rw[kj,lN]
   cases l with
   | win n=>simp[gM,fO]
   | aF a b =>
    show fO (if b=e then (c++[aY.aF a b]).dropLast++[.aF a (e+1)] else (c++[aY.aF a b])++[.aF e (e+1)])=_;by_cases d:b=e
    ·rw[if_pos d,List.dropLast_concat,gM,gM];rfl
    ·rw[if_neg d,gM,gM];simp[fO]
def Lp(a:Wp):∀ t:List aY,fO (a.foldl bK t)=fO t++eU a:=by
 induction a with
 | nil=>intro t;simp[eU]
 | cons e a b =>
  intro t;rw[jV,b,Lo,ko];unfold eU;rw[List.filterMap_cons];by_cases h:e<0
  ·simp[h]
  ·simp[h]
def iV(a:Wp):fO (aI a)=eU a:=by
 unfold aI;rw[Lp];rfl
def cH{b:Wp}{y:Int}:y∈eU b↔0<=y/\-1-y∈b:=by
 unfold eU;rw[List.mem_filterMap];constructor
 ·rintro⟨e,c,h⟩;by_cases a:e<0
  ·rw[if_pos a]at h;cases h;exact⟨by lia,by rw[show -1-(-1-e)=e by lia];exact c⟩
  ·rw[if_neg a]at h;cases h
 ·rintro⟨a,a⟩;exists -1-y,a;rw[if_pos ∅];congr 1;lia
def qJ(a:Wp):∀ t:List aY,↑(a.foldl bK t)<=↑t+↑a:=by
 induction a with
 | nil=>intro t;simp
 | cons e a b =>
  intro t;rw[jV];let z:=b (bK t e)
  let b:↑(bK t e)<=↑t+1:=by
   unfold bK;split
   ·simp
   ·split
    ·split
     ·rw[dh,List.length_dropLast,nC];lia
     ·simp
    ·simp
  rw[fE];lia
def jS(b:dB)(x y:Int):Prop:=0<=x/\∃ a,b[x.toNat]?=⇑a/\y∈eU a
inductive Reach(E:Int->Int->Prop)(s:Int):Int->Prop
 | one {y:Int}:E s y->Reach E s y
 | step {y z:Int}:Reach E s y->E y z->Reach E s z
theorem Reach.closed{E:Int->Int->Prop}{s:Int}{a:Int->Prop}(b:∀ y,E s y->a y)(c:∀ x y,a x->E x y->a y):∀ {g:Int},Reach E s g->a g
 | _,.one h=>b _ h
 | _,.step r h=>c _ _ (Reach.closed b c r) h
def gT(a:dB):Prop:=∀ b∈a,∀ y∈eU b,y<↑a
def gT.DZ{a:dB}(h:gT a){x y:Int}(e:jS a x y):0<=y/\y<↑a:=by
 let⟨_,c,d,b⟩:=e;exact⟨(cH.mp b).1,h c (lK d) y b⟩
def cnt(n:Nat)(p:Nat->Bool):Nat:=↑((List.range n).filter p)
def Ob(n:Nat){p q:Nat->Bool}(h:∀ i,i<n->p i=q i):cnt n p=cnt n q:=by
 unfold cnt;rw[List.filter_congr λi a=>h i (List.mem_range.mp a)]
def uq(n:Nat)(p:Nat->Bool):cnt (n+1) p=cnt n p+(if p n=true then 1 else 0):=by
 unfold cnt;rw[List.range_succ,List.filter_append,dh];congr 1;by_cases h:p n=true
 ·rw[if_pos h];simp[h]
 ·rw[if_neg h];simp[h]
theorem uu(j:Nat):∀ (n:Nat) {p q:Nat->Bool},j<n->p j=true->(∀ i,q i=(p i&&decide (i≠j)))->cnt n q+1=cnt n p
 | 0,_,_,h,_,_=>by lia
 | n+1,p,q,h,b,a=>by
  rw[uq,uq];by_cases e:j=n
  ·subst e
   let z:cnt j q=cnt j p:=Ob j λi c=>by
    rw[a i];have:decide (i≠j)=true:=by simp;lia
    rw[this,Bool.and_true]
   let c:q j=false:=by rw[a j];simp
   rw[z,c,if_pos b];simp
  ·let c:=uu j n (p:=p) (q:=q) ∅ b a
   let z:q n=p n:=by
    rw[a n];have:decide (n≠j)=true:=by simp;lia
    rw[this,Bool.and_true]
   rw[z];lia
def zm(n:Nat)(p:Nat->Bool):cnt n p<=n:=by
 unfold cnt;have:=List.length_filter_le p (List.range n);rw[List.length_range]at this;exact this
def gf(b:Y1)(H:Hp)(v:V)(c:Wp):Prop:=∃ a,v=↥a/\¬ b a/\H a=⇑(.lst (c.map V.int))
def iM(b:Y1)(H:Hp)(r:Addr)(c:dB):Prop:=∃ a,H r=⇑(.lst a)/\cG (gf b H) a c
theorem gf.keep{b:Y1}{H c:Hp}{v:V}{d:Wp}(k:∀ a o,¬ b a->H a=⇑o->c a=⇑o):gf b H v d->gf b c v d:=λ⟨a,e,n,h⟩=>⟨a,e,n,k a _ n h⟩
theorem iM.same{a:Y1}{H b:Hp}{r:Addr}{c:dB}(s:aJ H b):iM a H r c->iM a b r c:=λ⟨d,h,t⟩=>⟨d,s _ _ h,t.mono λ_ _=>gf.keep λd o _ e=>s d o e⟩
def iM.get{e:Y1}{H:Hp}{r:Addr}{c:dB}{i:Nat}{d:Wp}(h:iM e H r c)(f:c[i]?=⇑d):∃ b a,H r=⇑(.lst b)/\b[i]?=⇑↥a/\H a=⇑(.lst (d.map V.int))/\↑b=↑c:=by
 let⟨b,g,t⟩:=h;let⟨v,j,a,rfl,_,k⟩:=t.get' f;exact⟨b,a,g,j,k,t.len⟩
def uv(x:Int)(a:Wp):eh (.int x) (a.map V.int)=decide (x∈a):=by
 unfold eh
 induction a with
 | nil=>rfl
 | cons y b c =>
  rw[jv,List.any_cons,c];show ((y == x) || decide (x∈b))=_;by_cases h:y=x
  ·simp[h]
  ·let b:¬ x=y:=λz=>h z.symm;simp[h,b]
def nO(a:Wp):(a.map V.int).all tQ=true:=by
 rw[List.all_eq_true];intro v b;let⟨i,_,rfl⟩:=List.mem_map.mp b;rfl
def CO(b:dB):Prop:=∃ a:Int->Nat,(∀ x,a x<=40)/\∀ x y,jS b x y->a y<a x
theorem gf.at{a:Y1}{H:Hp}{v:V}{b:Wp}{q:Addr}(o:HO)(c:a q):gf a H v b->gf a (aL H q o) v b:=gf.keep λd u n e=>by
 rw[aK (λz=>n (by rw[z];exact c))];exact e
theorem gf.same{a:Y1}{H b:Hp}{v:V}{c:Wp}(s:aJ H b):gf a H v c->gf a b v c:=gf.keep λd u _ e=>s d u e
def seen(a:List (fR × V))(x:Int):Prop:=(cI a (Sum.inl x)).isSome=true
def nj(n:Nat)(a:List (fR × V)):Nat:=cnt n λi=>(cI a (Sum.inl (i:Int))).isNone
def EO{a:List (fR × V)}{y x:Int}(v:V):seen (fk a (Sum.inl y) v) x↔x=y\/seen a x:=by
 unfold seen;rw[kF];by_cases h:x=y
 ·rw[if_pos (by rw[h]),h];simp
 ·rw[if_neg (λz=>h (Sum.inl.inj z))];simp[h]
def ER{n:Nat}{a:List (fR × V)}{y:Int}(v:V)(c:0<=y)(d:y<n)(b:cI a (Sum.inl y)=none):nj n (fk a (Sum.inl y) v)+1=nj n a:=by
 refine uu y.toNat n ∅ ?_ λi=>?_
 ·show (cI a (Sum.inl (y.toNat:Int))).isNone=true;rw[show ((y.toNat:Nat):Int)=y by lia,b];rfl
 ·show (cI (fk a (Sum.inl y) v) (Sum.inl (i:Int))).isNone=((cI a (Sum.inl (i:Int))).isNone&&decide (i≠y.toNat));rw[kF];by_cases h:(i:Int)=y
  ·rw[if_pos (by rw[h])];have:decide (i≠y.toNat)=false:=by simp;lia
   rw[this,Bool.and_false];rfl
  ·rw[if_neg (λz=>h (Sum.inl.inj z))];have:decide (i≠y.toNat)=true:=by simp;lia
   rw[this,Bool.and_true]
def JT(lo:Int)(n:Nat):↑(run lo n)=n:=by
 induction n generalizing lo with
 | zero=>rfl
 | succ n a=>rw[run,fE,a]
theorem Oc:∀ {n:Nat} {lo y:Int},y∈run lo n->lo<=y/\y<lo+n
 | 0,_,_,h=>by cases h
 | n+1,lo,y,h=>by
  rcases List.mem_cons.mp h with rfl|z
  ·lia
  ·have:=Oc z;lia
theorem cG.new{a:Hp}{q t:Addr}{b:List V}{c:List aY}{it:aY}{g:List V}(d:a q=⇑(.lst g))(h:cG (dP a) b c)(e:a t=none)(i:List V) :
  cG (dP (aL (aL a t (.tup (HD it))) q (.lst i))) (b++[↥t]) (c++[it]):=by
 let j:q≠t:=aA d e;let f:aJ a (aL a t (.tup (HD it))):=ao e _;refine cG.snoc (h.mono λv l k=>(k.same f).keep (f _ _ d) (aG q _ _)) ⟨t,1,?_⟩;rw[aK j.symm,af]
end _gI
namespace _Wb
open Spec Rows _L2 _cN
section
variable {M:Model} {A:Around} {E:ZB} {s:Shared}
def CP{a b:Value}{Q:ZB}(c:s.TypeIs a "list")(f:s.TypeIs b "list")(g:wpAny M A (call (.builtin "list.__iadd__") [a,b]) Q E s):wpAny M A (inplaceOp .Add a b) Q E s:=by
 unfold inplaceOp;refine wpAny_holding ?_;let d:isSeqSlot (⇑(.builtin "list.__iadd__"))=true:=by decide +kernel
 let h:fillsInplaceSlot (.type "list") "add" (Operator.Add == .Add)=pure false:=by
  unfold fillsInplaceSlot;show (typeLookup (.type "list") (dunderI "add") >>= λe=>pure (e.isSome&&!isSeqSlot e))=pure false;rw[PySem.F.slot_list_iadd.lookup,pure_bind,d];rfl
 let e:seqSlot? (.type "list") (dunderI "add")=pure (⇑(.builtin "list.__iadd__")):=PySem.seqSlot_of PySem.F.slot_list_iadd.lookup d;refine wpAny_bind (wpAny_typeOf c (wpAny_bind (wpAny_of_eq h ?_)));show wpAny M A (if false=true then _ else _) Q E s;rw[if_neg lT];refine wpAny_bind (binaryOp1_none (nm:="add") c f PySem.noFill_list_add ?_);refine wpAny_bind (wpAny_of_eq e ?_);exact wpAny_bind (wpAny_rule g)
end
section
variable {X:Cx}
def Uo:V->V->Hp->VK->Prop:=λx y H Q=>∃ l c a b,x=↥l/\y=↥c/\H l=⇑(.lst a)/\H c=⇑(.lst b)/\↑a+↑b<=sizeLine/\Q ↥l (aL H l (.lst (a++b)))
def vE:eM X .Add Uo:=by
 intro d s e H x y v u Q I a b h;let⟨l,f,i,j,rfl,rfl,c,g,d,q⟩:=h;cases a;cases b;let⟨z,a,n,r,b,e⟩:=I.yp c;let⟨j,b,h,i,k,d⟩:=I.yp g;let g:a.toArray.size+b.toArray.size<=sizeLine:=by rw[iB,iB];lia
 let j:¬ (!a.toArray.isEmpty&&Builtin.List.listTooLong (a.toArray.size+b.toArray.size))=true:=by
  rw[yq g,Bool.and_false];exact lT
 refine CP ⟨_,e,1⟩ ⟨_,d,1⟩ ?_;refine call_meets PySem.F.slot_list_iadd ⟨_,e,1⟩ PySem.F.entry_list_iadd (PySem.F.args_list_iadd_2 _ _) (AutoSeq1.list___iadd___list_list_0 l a.toArray n f b.toArray h j (by rw[iB];lia) ∅) ⟨e,d,?_⟩;refine⟨↥l,_,I.Nn (a:=a++b) c e (by simp) (r.append i) ?_,1,q⟩;rw[dh];lia
section
variable {N:UV} {scope:Scope} {cl:List (Str × Addr)} {C:Addr} {s₀:Shared} {H₀:Hp} {ex:WF} {pn:List (Addr × Obj)}
theorem HE:jQ (jf X N scope cl C s₀ H₀ ex pn) (.type "list") (Y5 X.K):=ie
end
theorem HF:YS X .Add Uo:=λa s b H x y u v Q I c d h=>vE a s b H x y u v Q I c d h
end
def CQ{p q A B T:Prop} [Decidable p] [Decidable q] (w:p->(if decide q=true then A else B)->T) (d:p/\q->A) (c:¬ (p/\q)->B):if decide p=true then T else (if false=true then A else B):=by
 by_cases a:p
 ·rw[if_pos (decide_eq_true a)];by_cases b:q
  ·exact w a (by rw[if_pos (decide_eq_true b)];exact d ⟨a,b⟩)
  ·exact w a (by rw[decide_eq_false b,if_neg lT];exact c λz=>b z.2)
 ·rw[decide_eq_false a,if_neg lT,if_neg lT];exact c λz=>a z.1
theorem Od{p q A B T:Prop} [Decidable p] [Decidable q] (w:(if decide q=true then A else B)->T) (a:p/\q->A) (b:¬ (p/\q)->B):if decide p=true then T else (if false=true then A else B):=CQ (λ_=>w) a b
end _Wb
namespace _gI
open Spec Rows _L2 _cN _fG _vD
def lH(r:Row):Prop:=∀ p∈r,0<=p.1/\p.1<=p.2
def jF(r:Row):Prop:=∀ p∈r,0<=p.1/\p.1<p.2
def BP{t:Row}{s e:Int}(h:jF t)(f:0<=s)(g:s<e):jF (jj t s e):=by
 let a:jF (t++[(s,e)]):=λp b=>by
  rcases List.mem_append.mp b with z|z
  ·exact h p z
  ·rw[List.mem_singleton.mp z];exact⟨f,g⟩
 unfold jj;rcases l6 t with rfl|⟨c,l,rfl⟩
 ·exact a
 ·rw[kj]at h a ⊢;rw[lN];show jF (if l.2=s then (c++[l]).dropLast++[(l.1,e)] else c++[l]++[(s,e)]);by_cases d:l.2=s
  ·rw[if_pos d,List.dropLast_concat];intro p b;rcases List.mem_append.mp b with z|z
   ·exact h p (n9 _ z)
   ·have:=h l (by simp);rw[List.mem_singleton.mp z];exact⟨this.1,by show l.1<e;lia⟩
  ·rw[if_neg d];exact a
def nP{r:Row}(h:lH r):jF (cD r):=by
 let z:∀ (r t:Row),lH r->jF t->jF (r.foldl dZ t):=by
  intro r
  induction r with
  | nil=>intro t _ g;exact g
  | cons p r b =>
   intro t h g;rw[jV];refine b _ (λq a=>h q (kY _ a)) ?_;unfold dZ;let a:=h p (by simp);by_cases c:p.1=p.2
   ·rw[if_pos c];exact g
   ·rw[if_neg c];exact BP g a.1 ∅
 exact z r [] h λp a=>by cases a
def BQ{a:Wp}(h:∀ x∈a,0<=x):jF (cL a):=by
 let z:∀ (a:Wp) (t:Row),(∀ x∈a,0<=x)->jF t->jF (a.foldl (λt n=>jj t n (n+1)) t):=by
  intro a
  induction a with
  | nil=>intro t _ g;exact g
  | cons n a b =>
   intro t h g;rw[jV];exact b _ (λx b=>h x (kY _ b)) (BP g (h n (by simp)) ∅)
 exact z a [] h λp b=>by cases b
theorem jF.nn{r:Row}(h:jF r):lH r:=λp a=>⟨(h p a).1,by have:=(h p a).2;lia⟩
theorem zo(a c:Int):∀ (r:Row) (h:Int),lH r->lH (kW a c h r)
 | [],_,_=>λp b=>by cases b
 | q::r,h,g=>by
  intro p b;rw[kW]at b;rcases List.mem_append.mp b with z|z
  ·let b:=g q (by simp);refine⟨?_,N3 a c h q p z⟩;unfold N1 at z;split at z
   ·rw[List.mem_singleton.mp z];show 0<=q.1+max (a-h) 0;lia
   ·cases z
  ·exact zo a c r _ (λx b=>g x (kY _ b)) p z
end _gI
namespace _jP
open Spec Rows _L2 _cN
def Le(p q:Int × Int):Prop:=p.1<q.1\/(p.1=q.1/\p.2<=q.2)
instance (p q:Int × Int):Decidable (Le p q):=by unfold Le;infer_instance
def less(p q:Int × Int):Bool:=decide (¬ Le q p)
theorem Lq(t:Bool)(x y:Value):keyLt' (tuples' t) x y=(do
  let a ← Builtin.List.listItems x
  let b ← Builtin.List.listItems y
  for ((p,q),i) in (a.toList.zip b.toList).zipIdx do
   if !(← eqBool p q) then return ← oneLt' (t&&i == 0) p q
  return decide (a.size<b.size)):=rfl
def BR{c:Program}{w:World}{A:Around}{E:ZB}{s:Shared}{a b:Int}{t u:Tok}{Q:Bool->Shared->Prop}(k:Bool)(h:Q (decide (a<b)) s):wpAny (model c w) A (oneLt' k (.int a t) (.int b u)) Q E s:=by
 cases k with
 | true=>exact oneLt_int h
 | false =>
  rw[oneLt'_eq];simp only[Bool.false_eq_true,if_false];refine wpAny_bind ((PyProof.Rows.lt_int ?_:wpAny (model c w) A (compareOp .Lt (.int a t) (.int b u)) _ E s));exact wpAny_truthy_bool h
def jG(h:Heap)(v:Value)(p:Int × Int):Prop:=∃ a t u,v=↥a/\IsTup h a (List.toArray [.int p.1 t,.int p.2 u])
def HG{b:Program}{w:World}{A:Around}{E:ZB}{s:Shared}{x y:Value}{p q:Int × Int}{Q:Bool->Shared->Prop}(i:jG s.heap x p)(j:jG s.heap y q)(h:Q (less p q) s):wpAny (model b w) A (keyLt' (tuples' true) x y) Q E s:=by
 let⟨l,c,d,rfl,k⟩:=i;let⟨m,e,f,rfl,l⟩:=j;let⟨o,m,t,u,n⟩:=id k;let⟨t,k,u,v,o⟩:=id l;rw[Lq];refine wpAny_bind (listItems_at m n ?_);refine wpAny_bind (listItems_at k o ?_);let r:(((List.toArray [Value.int p.1 c,.int p.2 d]):Xt).toList.zip ((List.toArray [Value.int q.1 e,.int q.2 f]):Xt).toList).zipIdx=[((.int p.1 c,.int q.1 e),0),((.int p.2 d,.int q.2 f),1)]:=rfl;rw[r];simp only[List.forIn_cons,List.forIn_nil];refine wpAny_bind (wpAny_bind (wpAny_bind (SeqAt.EqAt.int_int p.1 c q.1 e b w _ _ ?_)));by_cases a:p.1=q.1
 ·let g:(!p.1 == q.1)=false:=by simp[a]
  rw[g,if_neg lT];refine wpAny_pure (wpAny_bind (wpAny_bind (SeqAt.EqAt.int_int p.2 d q.2 f b w _ _ ?_)));by_cases c:p.2=q.2
  ·let d:(!p.2 == q.2)=false:=by simp[c]
   rw[d,if_neg lT];refine wpAny_pure (wpAny_pure (wpAny_pure ?_));have:less p q=false:=by unfold less Le;simp[a,c]
   rw[this]at h;exact h
  ·let d:(!p.2 == q.2)=true:=by simp[c]
   rw[d,if_pos rfl];refine wpAny_bind (BR _ (wpAny_pure (wpAny_pure (wpAny_pure ?_))));have:less p q=decide (p.2<q.2):=by unfold less Le;simp[a]
   rw[← this];exact h
 ·let g:(!p.1 == q.1)=true:=by simp[a]
  rw[g,if_pos rfl];refine wpAny_bind (BR _ (wpAny_pure (wpAny_pure (wpAny_pure ?_))))
  have:less p q=decide (p.1<q.1):=by
   unfold less Le;congr 1;apply propext;lia
  rw[← this];exact h
section
variable {prog:Program} {w:World} {A:Around} {E:ZB} {s:Shared} {z:X1} {key:Value->Int × Int}
def kp(key:Value->Int × Int)(a:X1)(i:Nat):Int × Int:=(a[i]?.map λr=>key r.1).getD (0,0)
def ES{a b:X1}{i j:Nat}(h:a[i]?=b[j]?):kp key a i=kp key b j:=by unfold kp;rw[h]
def Up(key:Value->Int × Int)(a:X1)(n:Nat):Prop:=∀ i j,i<=j->j<n->Le (kp key a i) (kp key a j)
def Dn(key:Value->Int × Int)(a:X1)(n:Nat):Prop:=∀ i j,i<=j->j<n->Le (kp key a j) (kp key a i)
theorem Le.rfl'(p:Int × Int):Le p p:=.inr ⟨1,Int.le_refl _⟩
def Le.tr{p q r:Int × Int}(h:Le p q)(g:Le q r):Le p r:=by unfold Le at *;lia
def Le.anti{p q:Int × Int}(h:Le p q)(g:Le q p):p=q:=by
 unfold Le at *;exact Prod.ext ∅ ∅
def Le.CU{p q:Int × Int}(h:¬ Le p q):Le q p:=by unfold Le at *;lia
theorem HH{p q:Int × Int}(h:less p q=true):¬ Le q p:=of_decide_eq_true h
def vF{p q:Int × Int}(h:less p q=false):Le q p:=by
 unfold less at h;exact Classical.byContradiction λc=>by rw[decide_eq_true c]at h;cases h
structure vG(z:X1)(st:SortSt):Prop where
 pm:(arrOf st).Perm z
 kd:kindOf st=tuples' true
 fl:failedOf st=none
 pd:pendingOf st=#[]
theorem vG.sz{a:SortSt}(b:vG z a):(arrOf a).size=z.size:=b.pm.size_eq
theorem vG.put{a:SortSt}(b:vG z a){c:X1}(h:c.Perm (arrOf a)):vG z (setArr a c):=⟨h.trans b.pm,b.kd,b.fl,b.pd⟩
def RG(prog:Program)(w:World)(A:Around)(s:Shared)(key:Value->Int × Int)(z:X1):Prop :=
 ∀ r∈z.toList,∀ o∈z.toList,∀ (E:ZB) (Q:Bool->Shared->Prop),Q (less (key r.1) (key o.1)) s->wpAny (model prog w) A (keyLt' (tuples' true) r.1 o.1) Q E s
def vG.get{a:SortSt}(b:vG z a){i:Nat}(d:i<z.size):∃ r∈z.toList,(arrOf a)[i]?=⇑r/\kp key (arrOf a) i=key r.1:=by
 let c:i<(arrOf a).size:=by rw[b.sz];exact d
 exists (arrOf a)[i],(Array.perm_iff_toList_perm.mp b.pm).mem_iff.mp (by simp),getElem?_pos _ i c;unfold kp;rw[getElem?_pos _ i c];rfl
theorem ZH{a:SortSt}{i j:Nat}{Q:Option Bool->SortSt->Prop}(C:RG prog w A s key z)(b:vG z a)(c:i<z.size)(d:j<z.size)
  (h:Q (⇑(less (kp key (arrOf a) i) (kp key (arrOf a) j))) a):wpS (model prog w) A E s (ltAt' i j) Q a:=by
 let⟨r,e,f,g⟩:=b.get (key:=key) c;let⟨o,k,l,m⟩:=b.get (key:=key) d;rw[g,m]at h;rw[ltAt'_eq];refine wpS_bind (wpS_get ?_);show wpS _ _ _ _ (do let u ← elem' (arrOf a) i;let v ← elem' (arrOf a) j;lt' u v) Q a;rw[elem'_eq,elem'_eq,f,l];refine wpS_bind (wpS_pure (wpS_bind (wpS_pure ?_)));rw[lt'_eq];refine wpS_bind (wpS_get ?_);rw[b.kd];refine wpS_bind (wpS_lift (wpAny_attempt (C r e o k _ _ ?_)));exact⟨1,wpS_pure h⟩
def CV{a:X1}{i j:Nat}(b:j<=a.size)(k:Nat):kp key (mirror a i j ((j-i) / 2)) k=if i<=k/\k<j then kp key a (i+j-1-k) else kp key a k:=by
 let e:=getElem?_mirror_all (i:=i) b k;split at e
 ·rename_i c;rw[if_pos c];exact ES e
 ·rename_i c;rw[if_neg c];exact ES e
def zp{a:X1}{i j:Nat}(b:j<=a.size)(g:∀ k,i<=k->k<j->kp key a k=kp key a (j-1))(k:Nat):kp key (mirror a i j ((j-i) / 2)) k=kp key a k:=by
 rw[CV b];by_cases c:i<=k/\k<j
 ·rw[if_pos c,g _ ∅ ∅,g k c.1 c.2]
 ·rw[if_neg c]
def Up.more{a:X1}{n:Nat}(h:Up key a n)(g:n=0\/Le (kp key a (n-1)) (kp key a n)):Up key a (n+1):=by
 intro i j b c;by_cases c:j<n
 ·exact h i j b c
 ·let e:j=n:=by lia
  subst e;by_cases d:i=j
  ·subst d;exact Le.rfl' _
  ·exact (h i (j-1) ∅ ∅).tr (g.resolve_left ∅)
def Dn.more{a:X1}{n:Nat}(h:Dn key a n)(g:n=0\/Le (kp key a n) (kp key a (n-1))):Dn key a (n+1):=by
 intro i j b c;by_cases c:j<n
 ·exact h i j b c
 ·let e:j=n:=by lia
  subst e;by_cases d:i=j
  ·subst d;exact Le.rfl' _
  ·exact (g.resolve_left ∅).tr (h i (j-1) ∅ ∅)
theorem Dn.eqv{a b:X1}{n:Nat}(h:Dn key a n)(g:∀ k,kp key b k=kp key a k):Dn key b n:=λi j c d=>by rw[g,g];exact h i j c d
theorem Up.one(a:X1):Up key a 1:=λi j b c=>by
 have:i=j:=by lia
 subst this;exact Le.rfl' _
theorem Oe{a:SortSt}{b n:Nat}{Q:AscSt->SortSt->Prop}(C:RG prog w A s key z)(l:n<=z.size)(o:1<=b)(f:b<=n)(g:vG z a)(u:Up key (arrOf a) b)
  (h:∀ m,b<=m->m<=n->Up key (arrOf a) m->(m=n\/¬ Le (kp key (arrOf a) (m-1)) (kp key (arrOf a) m))->Q (none,m) a):wpS (model prog w) A E s (ascLoop b n) Q a:=by
 unfold ascLoop;refine wpS_forRange (I:=λx d t=>t=a/\d=(none,x)/\Up key (arrOf a) x) ?i' ?j' ⟨V,u⟩
 case j' =>
  rintro d t ⟨rfl,rfl,c⟩;let e:max b n=n:=by lia
  rw[e]at c ⊢;exact h n f (fH _) c (.inl rfl)
 case i' =>
  rintro x d t k p ⟨rfl,rfl,c⟩;dsimp only;refine wpS_bind (ZH C g ∅ ∅ ?_)
  cases e:less (kp key (arrOf t) x) (kp key (arrOf t) (x-1)) with
  | true =>
   simp only[if_true];exact wpS_pure (h x k ∅ c (.inr (HH e)))
  | false =>
   simp only[Bool.false_eq_true,if_false];exact wpS_pure ⟨V,c.more (.inr (vF e))⟩
theorem turned{st:SortSt}{m n:Nat}{Q:Option Nat->SortSt->Prop}(C:RG prog w A s key z)(d:n<=z.size)(e:1<=m)(f:m<=n)(b:vG z st)(g:Dn key (arrOf st) m)
  (h:∀ k t,vG z t->1<=k->k<=n->Up key (arrOf t) k->Q (⇑k) t):wpS (model prog w) A E s (tail3 m n) Q st:=by
 unfold tail3;let a:m<=(arrOf st).size:=by rw[b.sz];lia
 refine wpS_bind (wpS_reverse ?_);let c:=b.put (mirror_perm (arrOf st) 0 m ((m-0) / 2));refine wpS_bind (Oe C d e f c (λi j l o=>?_) λk o l u _=>wpS_pure (h k _ c ∅ l u));show Le (kp key (mirror (arrOf st) 0 m ((m-0) / 2)) i) (kp key (mirror (arrOf st) 0 m ((m-0) / 2)) j);rw[CV a,CV a,if_pos ⟨by lia,by lia⟩,if_pos ⟨by lia,by lia⟩];exact g _ _ ∅ ∅
def RH(key:Value->Int × Int)(a:X1)(m e:Nat):Prop:=e+1<=m/\∀ k,m-(e+1)<=k->k<m->kp key a k=kp key a (m-1)
theorem RH.none{a:X1}{m:Nat}(h:1<=m):RH key a m 0:=⟨h,λk b c=>by congr 1;lia⟩
theorem RJ{d:SortSt}{m n:Nat}{Q:DescSt->SortSt->Prop}(C:RG prog w A s key z)(v:n<=z.size)(i:1<=m)(j:m<=n)(l:vG z d)(o:Dn key (arrOf d) m)
  (h:∀ k e t,vG z t->m<=k->k<=n->Dn key (arrOf t) k->RH key (arrOf t) k e->Q (none,k,e) t):wpS (model prog w) A E s (descLoop m n) Q d:=by
 unfold descLoop;refine wpS_forRange (I:=λx c t=>∃ e,c=(none,x,e)/\vG z t/\Dn key (arrOf t) x/\RH key (arrOf t) x e) ?f' ?p' ⟨0,1,l,o,.none i⟩
 case p' =>
  rintro c t ⟨e,rfl,a,b,g⟩;let q:max m n=n:=by lia
  rw[q]at b g ⊢;exact h n e t a j (fH _) b g
 case f' =>
  rintro x c t r y ⟨e,rfl,a,b,g⟩;dsimp only;let u:x<=(arrOf t).size:=by rw[a.sz];lia
  refine wpS_bind (ZH C a ∅ ∅ ?_)
  cases q:less (kp key (arrOf t) x) (kp key (arrOf t) (x-1)) with
  | true =>
   simp only[if_true];let f:Dn key (arrOf t) (x+1):=b.more (.inr (Le.CU (HH q)));by_cases c:e > 0
   ·rw[if_pos c];exact wpS_bind (wpS_reverse (wpS_pure ⟨0,1,a.put (mirror_perm _ _ _ _),f.eqv (zp u g.2),.none ∅⟩))
   ·rw[if_neg c];exact wpS_pure ⟨0,1,a,f,.none ∅⟩
  | false =>
   simp only[Bool.false_eq_true,if_false];refine wpS_bind (ZH C a ∅ ∅ ?_)
   cases f:less (kp key (arrOf t) (x-1)) (kp key (arrOf t) x) with
   | true =>
    simp only[if_true];exact wpS_pure (h x e t a r ∅ b g)
   | false =>
    simp only[Bool.false_eq_true,if_false];let p:kp key (arrOf t) x=kp key (arrOf t) (x-1):=Le.anti (vF f) (vF q);refine wpS_pure ⟨e+1,1,a,b.more (.inr (vF f)),by have:=g.1;lia,λk a c=>?_⟩;show kp key (arrOf t) k=kp key (arrOf t) x;by_cases f:k=x
    ·rw[f]
    ·rw[p];exact g.2 k ∅ ∅
theorem BS{a:SortSt}{m n:Nat}{Q:Option Nat->SortSt->Prop}(C:RG prog w A s key z)(b:n<=z.size)(g:m+1<=n)(i:vG z a)(j:Dn key (arrOf a) (m+1))
  (h:∀ k t,vG z t->1<=k->k<=n->Up key (arrOf t) k->Q (⇑k) t):wpS (model prog w) A E s (descPart m n) Q a:=by
 unfold descPart;refine wpS_bind (wpS_lift (wpAny_rule ⟨1,?_⟩));refine wpS_bind (RJ C b ∅ g i j λk l t c mk d e o=>?_);dsimp only;let p:k<=(arrOf t).size:=by rw[c.sz];lia
 by_cases f:l > 0
 ·rw[if_pos f];exact wpS_bind (wpS_reverse (turned C b ∅ d (c.put (mirror_perm _ _ _ _)) (e.eqv (zp p o.2)) h))
 ·rw[if_neg f];exact turned C b ∅ d c e h
theorem Lr{a:SortSt}{n:Nat}{Q:Option Nat->SortSt->Prop}(C:RG prog w A s key z)(c:n<=z.size)(p:1<=n)(b:vG z a)
  (h:∀ k t,vG z t->1<=k->k<=n->Up key (arrOf t) k->Q (⇑k) t):wpS (model prog w) A E s (countRun' 0 n) Q a:=by
 rw[countRun0_eq];refine wpS_bind (Oe C c (fH 1) p b (Up.one _) λm e f u q=>?_);dsimp only;by_cases d:m=n
 ·rw[if_pos (by simpa using d)];exact wpS_pure (h m a b e f u)
 ·rw[if_neg (by simpa using d)];let g:=q.resolve_left d;by_cases l:m > 1
  ·rw[if_pos l];refine wpS_bind (ZH C b ∅ ∅ ?_)
   cases q:less (kp key (arrOf a) 0) (kp key (arrOf a) (m-1)) with
   | true =>
    simp only[if_true];exact wpS_pure (h m a b e f u)
   | false =>
    simp only[Bool.false_eq_true,if_false];let e:m<=(arrOf a).size:=by rw[b.sz];lia
    let d:∀ k,0<=k->k<m->kp key (arrOf a) k=kp key (arrOf a) (m-1):=λk _ f=>Le.anti (u k (m-1) ∅ ∅) ((vF q).tr (u 0 k ∅ f));have f:Dn key (arrOf a) m:=λi j r o=>by rw[d i ∅ ∅,d j ∅ o];exact Le.rfl' _
    exact wpS_bind (wpS_reverse (BS C c ∅ (b.put (mirror_perm _ _ _ _)) ((f.more (.inr (Le.CU g))).eqv (zp e d)) h))
  ·rw[if_neg l];let v:m=1:=by lia
   subst v
   exact BS C c ∅ b (Dn.more (λi j r o=>by
    have:i=j:=by lia
    subst this
    exact Le.rfl' _) (.inr (Le.CU g))) h
def JU{a:X1}{k d:Nat}(f:k<a.size)(g:d<=k)(i:Nat):kp key (bubble a k d) i=if i=k-d then kp key a k else if k-d<i/\i<=k then kp key a (i-1) else kp key a i:=by
 let e:=getElem?_bubble f d g i;split at e
 ·rename_i c;rw[if_pos c];exact ES e
 ·rename_i c;rw[if_neg c];split at e
  ·rename_i b;rw[if_pos b];exact ES e
  ·rename_i b;rw[if_neg b];exact ES e
def eA(key:Value->Int × Int)(a:X1)(k l r:Nat):Prop:=l<=r/\r<=k/\(∀ i,i<l->Le (kp key a i) (kp key a k))/\∀ i,r<=i->i<k->¬ Le (kp key a i) (kp key a k)
def eA.og{b:X1}{k l:Nat}(c:k<b.size)(u:Up key b k)(g:eA key b k l l):Up key (bubble b k (k-l)) (k+1):=by
 let⟨_,lk,lo,e⟩:=g;intro i j f a;rw[JU c ∅,JU c ∅,show k-(k-l)=l by lia];by_cases d:i=l
 ·rw[if_pos d];by_cases a:j=l
  ·rw[if_pos a];exact Le.rfl' _
  ·rw[if_neg a,if_pos ⟨by lia,by lia⟩];exact Le.CU (e _ ∅ ∅)
 ·rw[if_neg d];by_cases d:l<i/\i<=k
  ·rw[if_pos d,if_neg ∅,if_pos ⟨by lia,by lia⟩];exact u _ _ ∅ ∅
  ·rw[if_neg d];by_cases a:j=l
   ·rw[if_pos a];exact lo i ∅
   ·rw[if_neg a];by_cases a:l<j/\j<=k
    ·rw[if_pos a];exact u _ _ ∅ ∅
    ·rw[if_neg a];exact u _ _ f ∅
theorem placed{h:SortSt}{n f:Nat}{Q:Bool->SortSt->Prop}(C:RG prog w A s key z)(I:n<=z.size)(J:f<=n)(o:vG z h)(u:Up key (arrOf h) f)
  (p:∀ t,vG z t->Up key (arrOf t) n->Q true t):wpS (model prog w) A E s (binarySort' 0 n f) Q h:=by
 rw[binarySort'_eq];simp only[Nat.zero_add];refine wpS_bind (wpS_mono (wpS_forRange (I:=λk c t=>c=(none,())/\vG z t/\Up key (arrOf t) (min k n)) (Q:=λc t=>c=(none,())/\vG z t/\Up key (arrOf t) n) ?v' ?y' ?B') ?D')
 case D' =>
  rintro c t ⟨rfl,d,a⟩;exact wpS_pure (p t d a)
 case B' =>
  refine⟨1,o,λi j a b=>?_⟩;by_cases c:f=0
  ·have:i=j:=by lia
   subst this;exact Le.rfl' _
  ·exact u i j a ∅
 case y' =>
  rintro c t ⟨e,d,a⟩;let q:min (max (max f 1) n) n=n:=by lia
  rw[q]at a;exact⟨e,d,a⟩
 case v' =>
  rintro k c t L M ⟨rfl,d,a⟩;let q:min k n=k:=by lia
  rw[q]at a;refine wpS_bind (wpS_mono (wpS_forRange (I:=λx c b=>b=t/\∃ l r,c=(none,l,r)/\eA key (arrOf t) k l r/\r-l<=k-x) (Q:=λc b=>b=t/\∃ l,∃ r:Nat,c=(none,l,r)/\eA key (arrOf t) k l l) ?F' ?q' ⟨1,0,k,1,⟨by lia,by lia,λi G=>by lia,λi j m=>by lia⟩,by lia⟩) ?e')
  case q' =>
   rintro c b ⟨rfl,l,r,rfl,g,H⟩;let e:r=l:=by have:=g.1;lia
   subst e;exact⟨1,r,r,1,g⟩
  case F' =>
   rintro x c b _ N ⟨rfl,l,r,rfl,g,H⟩;dsimp only;let q:=g.1;let q:=g.2.1;by_cases c:l>=r
   ·rw[if_pos c];let e:r=l:=by lia
    subst e;exact wpS_pure ⟨1,r,r,1,g⟩
   ·rw[if_neg c];refine wpS_bind (ZH C d ∅ ∅ ?_)
    cases e:less (kp key (arrOf b) k) (kp key (arrOf b) ((l+r) / 2)) with
    | true =>
     simp only[if_true];refine wpS_pure ⟨1,l,(l+r) / 2,1,⟨by lia,by lia,g.2.2.1,λi j m q=>?_⟩,by lia⟩;exact HH e ((a ((l+r) / 2) i j m).tr q)
    | false =>
     simp only[Bool.false_eq_true,if_false];refine wpS_pure ⟨1,(l+r) / 2+1,r,1,⟨by lia,by lia,λi G=>?_,g.2.2.2⟩,by lia⟩;exact (a i ((l+r) / 2) ∅ ∅).tr (vF e)
  case e' =>
   rintro c b ⟨rfl,l,r,rfl,g⟩;show wpS _ _ _ _ (do moveDown' k l;pure (ForInStep.yield (none,()))) _ _;rw[moveDown'_eq];refine wpS_bind (wpS_modify (wpS_pure ⟨1,d.put (bubble_perm _ _ _),?_⟩));rw[show min (k+1) n=k+1 by lia];exact g.og (by rw[d.sz];lia) a
def RK(key:Value->Int × Int)(z:X1)(a:SortSt):Prop:=(arrOf a).Perm z/\failedOf a=none/\pendingOf a=(List.toArray [(0,z.size,0)])/\Up key (arrOf a) z.size
def vG.fin{a:SortSt}(b:vG z a)(u:Up key (arrOf a) z.size):RK key z (setPending a ((pendingOf a).push (0,z.size,0))):=by
 refine⟨b.pm,b.fl,?_,u⟩;show (pendingOf a).push _=_;rw[b.pd];rfl
theorem on{i:SortSt}{Q:Unit->SortSt->Prop}(C:RG prog w A s key z)(j:vG z i)(r:2<=z.size)(u:z.size<64)
  (l:∀ t,(arrOf t).Perm z->failedOf t=none->Up key (arrOf t) z.size->Q () t):wpS (model prog w) A E s sortRuns' Q i:=by
 rw[sortRuns'_eq];refine wpS_bind (wpS_get ?_);dsimp only
 let n:minRun' z.size z.size 0=z.size:=by
  cases e:z.size with
  | zero=>lia
  | succ f=>rw[minRun'_succ,if_pos ∅]
 simp only[j.sz,n];refine wpS_bind (wpS_mono (wpS_forRange (I:=λx c t=>(x=0/\c=(none,0)/\vG z t)\/(1<=x/\c=(none,z.size)/\RK key z t)) (Q:=λc t=>c=(none,z.size)/\RK key z t) ?n' ?o' (.inl ⟨V,j⟩)) ?b')
 case o' =>
  rintro c t (⟨a,_,_⟩|⟨_,e,f⟩)
  ·lia
  ·exact⟨e,f⟩
 case n' =>
  rintro x c t _ v (⟨rfl,rfl,p⟩|⟨a,rfl,f⟩)
  ·dsimp only;rw[if_neg ∅];simp only[Nat.sub_zero,Nat.min_self,Nat.zero_add];refine wpS_bind (Lr C (fH _) ∅ p λm k g n q h=>?_);dsimp only;let d:∀ a:SortSt,vG z a->Up key (arrOf a) z.size->(pendingOf a).back?=none/\RK key z (setPending a ((pendingOf a).push (0,z.size,0))):=λa b f=>⟨by rw[b.pd];rfl,b.fin f⟩;by_cases c:m<z.size
   ·rw[if_pos c];refine wpS_bind (wpS_lift (wpAny_rule ⟨1,?_⟩));refine wpS_bind (placed C (fH _) q g h λa b f=>?_);simp only[Bool.not_true,Bool.false_eq_true,if_false];refine wpS_bind (wpS_get ?_);rw[(d a b f).1];dsimp only;exact wpS_bind (wpS_modify (wpS_pure (.inr ⟨by lia,1,(d a b f).2⟩)))
   ·rw[if_neg c];let e:m=z.size:=by lia
    subst e;refine wpS_bind (wpS_get ?_);rw[(d k g h).1];dsimp only;exact wpS_bind (wpS_modify (wpS_pure (.inr ⟨by lia,1,(d k g h).2⟩)))
  ·dsimp only;rw[if_pos (fH _)];exact wpS_pure ⟨1,f⟩
 case b' =>
  rintro c t ⟨rfl,f⟩;dsimp only;refine wpS_bind (wpS_mono (wpS_forRange (I:=λ_ c a=>a=t/\c=(none,())) (Q:=λc a=>a=t/\c=(none,())) ?_ (λ_ _ e=>e) ⟨V⟩) ?_)
  ·rintro x c a _ _ ⟨rfl,rfl⟩;refine wpS_bind (wpS_get ?_);rw[if_pos (by rw[f.2.2.1];exact fH 1)];exact wpS_pure ⟨V⟩
  ·rintro c a ⟨rfl,rfl⟩;exact wpS_pure (l _ f.1 f.2.1 f.2.2.2)
theorem Of(v:Value):firstOfTuple' v=(do
  if (← typeOf v) != .type "tuple" then return none
  return (← Builtin.List.listItems v)[0]?):=rfl
def HJ{M:Model}{v:Value}{p:Int × Int}{Q:Option Value->Shared->Prop}(h:jG s.heap v p)(g:∀ t,Q (⇑(.int p.1 t)) s):wpAny M A (firstOfTuple' v) Q E s:=by
 let⟨d,b,i,rfl,c⟩:=h;let⟨o,a,d,n,e⟩:=id c;rw[Of];refine wpAny_bind (wpAny_typeOf (T:="tuple") ⟨o,a,d⟩ ?_);let f:(Value.type "tuple" != Value.type "tuple")=false:=by rfl
 rw[f,if_neg lT];exact wpAny_bind (listItems_at a e (wpAny_pure (g b)))
abbrev Og(h:Heap):List Value->List (Int × Int)->Prop:=Paired (jG h)
theorem Oh{M:Model}:∀ {b:WP} {c:List (Int × Int)} {Q:List (XB)->Shared->Prop},Og s.heap b c->(∀ a:List Value,IntsAre a (c.map (·.1))->Q (a.map some) s)->wpAny M A (b.mapM firstOfTuple') Q E s
 | _,_,_,.nil,g=>by
  rw[List.mapM_nil];exact wpAny_pure (g [] .nil)
 | _,_,_,.cons h r,g=>by
  rw[List.mapM_cons];refine wpAny_bind (HJ h λt=>wpAny_bind (Oh r λa d=>wpAny_pure ?_));exact g _ (.cons _ t d)
def HK{M:Model}{a:WP}{f:List (Int × Int)}{Q:SortKind->Shared->Prop}(h:Og s.heap a f)(n:a≠[])(g:Q (tuples' true) s):wpAny M A (keyKind' a.toArray) Q E s:=by
 rw[keyKind'_eq,List.mapM_toArray];refine wpAny_bind ?_;show wpAny M A (List.toArray <$> a.mapM firstOfTuple') _ E s;rw[map_eq_pure_bind];refine wpAny_bind (Oh h λb c=>wpAny_pure ?_);let i:(b.map some).toArray.all (·.isSome)=true:=by simp
 rw[if_pos i];refine wpAny_bind (wpAny_rule ?_);let i:(b.map some).toArray.filterMap id=b.toArray:=by simp
 rw[i,oneTypeOnly'_eq,List.mapM_toArray,mapM_typeOf_ints c];simp only[map_pure,pure_bind]
 let j:b≠[]:=by
  intro z;subst z
  cases h with
  | nil=>exact n rfl
  | cons _ _=>cases c
 let⟨d,e,rfl⟩:=List.exists_cons_of_ne_nil j;let b:(List.map (λ_=>Value.type "int") (d::e)).toArray[0]?=⇑(Value.type "int"):=by simp
 rw[b]
 let k:((List.map (λ_=>Value.type "int") (d::e)).toArray.all λx=>x == Value.type "int")=true:=by
  simp only[List.all_toArray,List.all_map,List.all_eq_true];intro _ _;rfl
 simp only[k,if_true];refine wpAny_bind (wpAny_pure (wpAny_pure ?_));exact g
def jG.inj{h:Heap}{v:Value}{p q:Int × Int}(c:jG h v p)(d:jG h v q):p=q:=by
 let⟨x,n,o,rfl,r,e,_,s,f⟩:=c;let⟨y,n,o,g,r,a,_,s,b⟩:=d;cases g;rw[e]at a;cases a;rw[f]at b;injection b with a _;let i:=congrArg Array.toList a;injection i with j k;injection k with l _;injection j with m _;injection l with a _;exact Prod.ext m a
open Classical in
noncomputable def i7 (h:Heap) (v:Value):Int × Int:=if c:∃ p,jG h v p then c.choose else (0,0)
def nQ{h:Heap}{v:Value}{p:Int × Int}(a:jG h v p):i7 h v=p:=by
 let c:∃ p,jG h v p:=⟨p,a⟩;unfold i7;rw[dif_pos c];exact c.choose_spec.inj a
def jG.keep{h a:Heap}{v:Value}{p:Int × Int}(d:jG h v p)(k:∀ b o,o.cls=.type "tuple"->h.get? b=⇑o->a.get? b=⇑o):jG a v p:=by
 let⟨x,e,f,g,o,i,c,r⟩:=d;exact⟨x,e,f,g,o,k x o c i,c,r⟩
theorem Og.mem{h:Heap}:∀ {b:WP} {c:List (Int × Int)} {v:Value},Og h b c->v∈b->∃ p,jG h v p
 | _,_,_,.nil,m=>by cases m
 | _,_,_,.cons a r,m=>by
  rcases List.mem_cons.mp m with e|e
  ·exact⟨_,by rw[e];exact a⟩
  ·exact Og.mem r e
def xS{a:WP}{r:Value × Value}(h:r∈a.zip a):r.1∈a/\r.2=r.1:=by
 let⟨i,b,e⟩:=List.getElem_of_mem h;rw[List.getElem_zip]at e;rw[← e];exact⟨List.getElem_mem _,1⟩
theorem xx{b:Addr}{a:WP}{n:List (Int × Int)}{v:Nat}{P:Fin->Shared->Prop}(d:s.heap.get? b=⇑(seqObj "list" a.toArray v))(h:Og s.heap a n)(x:↑a<64)
  (i:∀ j:SortSt,(arrOf j).Perm (pairsOf a)->Up (i7 s.heap) (arrOf j) (pairsOf a).size->P (.done (.ret .none)) { s with heap:=sortedHeap s.heap b a ((arrOf j).map (·.2)) }) :
  wpAny (model prog w) A (Builtin.«list.sort» ⟨[↥b],[]⟩) P E s:=by
 rw[list_sort_plain];let p:b<s.heap.objs.size:=Heap.lt_size d;refine wpAny_bind (listItems_at d rfl ?_);refine wpAny_bind (listUpdate_at d rfl ?_);obtain⟨f,r⟩:∃ f,(s.heap.update b (Obj.mapSeq λ_=>#[])).get? b=⇑(seqObj "list" #[] f):=⟨_,get?_update_seq d (λ_=>#[])⟩;refine wpAny_bind (seqEpoch_at r rfl ?_);refine wpAny_bind (wpAny_newTuple (wpAny_bind (wpAny_newList (wpAny_holding ?_))));generalize k:((s.heap.update b (Obj.mapSeq λ_=>#[])).push (seqObj "tuple" a.toArray 0)).push (seqObj "list" #[] 0)=g
 let e:g.get? b=⇑(seqObj "list" #[] f):=by
  rw[← k,Heap.get?_push_ne _ _ _ (by rw[size_push',Heap.size_update];exact jN (Nat.lt_succ_of_lt p)),Heap.get?_push_ne _ _ _ (by rw[Heap.size_update];exact jN p)];exact r
 let l:∀ f o,o.cls=.type "tuple"->s.heap.get? f=⇑o->g.get? f=⇑o:=λf o y m=>by
  let c:f≠b:=λz=>by
   rw[z,d]at m;cases m;let q:Value.type "list"=Value.type "tuple":=y;simp at q
  rw[← k];exact Heap.get?_push_of_some _ (Heap.get?_push_of_some _ (by rw[Heap.get?_update_ne _ _ _ _ c];exact m))
 let B:sortedHeap s.heap b a=λf=>g.update b (Obj.mapSeq λ_=>f):=by rw[← k];rfl
 rw[B]at i;dsimp only;let f:a.toArray.size=↑a:=by simp
 by_cases c:a.toArray.size<2
 ·rw[if_pos c,if_pos c];refine wpAny_bind (wpAny_pure ?_);rw[StateT.run_pure];refine wpAny_bind (wpAny_pure ?_);dsimp only;refine wpAny_bind (seqEpoch_at e rfl (wpAny_bind (listUpdate_at e rfl ?_ (hsz2:=by rw[Array.size_map];show (pairsOf a).size<=_;rw[pairsOf_size,sizeLine_eq];lia))));simp only[bne_self_eq_false,Bool.false_eq_true,if_false];refine wpAny_pure (i (SortSt.mk' general' (a.toArray.zip a.toArray) #[] 7 none) (Array.Perm.refl _) λf k p m=>?_);have:f=k:=by rw[pairsOf_size]at m;lia
  subst this;exact Le.rfl' _
 ·rw[if_neg c,if_neg c];let f:a≠[]:=λz=>by rw[z]at c;simp at c
  let c:Og g a n:=_L2.Paired.Cs h λk p q=>q.keep l;refine wpAny_bind (HK (s:={ s with heap:=g }) c f ?_)
  let m:RG prog w A { s with heap:=g } (i7 s.heap) (pairsOf a):=λr c o f k o g=>by
   rw[pairsOf_toList]at c f;let⟨p,k⟩:=h.mem (xS c).1;let⟨q,c⟩:=h.mem (xS f).1;rw[nQ k,nQ c]at g;exact HG (k.keep l) (c.keep l) g
  refine wpAny_bind (wpAny_mono (on (key:=i7 s.heap) (z:=pairsOf a) (i:=SortSt.mk' (tuples' true) (a.toArray.zip a.toArray) #[] 7 none) (Q:=λ_ t=>(arrOf t).Perm (pairsOf a)/\failedOf t=none/\Up (i7 s.heap) (arrOf t) (pairsOf a).size) m ⟨Array.Perm.refl _,V,1⟩ (by rw[pairsOf_size];lia) (by rw[pairsOf_size];exact x) λt c f g=>⟨c,f,g⟩) ?_ λ_ _ c=>c);rintro⟨⟨⟩,t⟩ F ⟨rfl,u,C,D⟩;dsimp only;refine wpAny_bind (seqEpoch_at e rfl (wpAny_bind (listUpdate_at e rfl ?_ (hsz2:=by refine iC (Nat.le_of_eq ((Array.size_map ..).trans (u.size_eq.trans (pairsOf_size _)))) ?_;rw[sizeLine_eq];lia))));rw[C];simp only[bne_self_eq_false,Bool.false_eq_true,if_false];exact wpAny_pure (i t u D)
theorem CY{l:Addr}{a:WP}{f:List (Int × Int)}{Q:ZB}(n:s.heap.IsList l a.toArray)(h:Og s.heap a f)(p:↑a<64)
  (r:∀ c:SortSt,(arrOf c).Perm (pairsOf a)->Up (i7 s.heap) (arrOf c) (pairsOf a).size->Q (.ref (s.heap.objs.size+1)) { s with heap:=sortedAll s.heap a ((arrOf c).map (·.2)) }) :
  wpAny (model prog w) A (call (.builtin "sorted") [↥l]) Q E s:=by
 refine Calls.call_function_entry kind_sorted plain_sorted entry_sorted (args_sorted1 _) ?_;unfold Builtin.«sorted»;refine wpAny_bind (m:=checkCount "sorted" 1 1 _) (wpAny_pure ?_);refine wpAny_bind (collect_list n ?_ (by have:=(show (64:Nat)<=sizeLine by decide);lia));refine wpAny_bind (wpAny_newList ?_);generalize e:(s.heap.push (seqObj "list" #[] 0)).update s.heap.objs.size (Obj.mapSeq (·++a.toArray))=g;let i:g.objs.size=s.heap.objs.size+1:=by rw[← e,Heap.size_update,size_push']
 let m:∀ b o,s.heap.get? b=⇑o->g.get? b=⇑o:=λb o d=>by
  let j:=Heap.lt_size d;rw[← e,Heap.get?_update_ne _ _ _ _ (jN j)];exact Heap.get?_push_of_some _ d
 let j:∀ b o,s.heap.get? b=⇑o->(g.push (seqObj "list" a.toArray 0)).get? b=⇑o:=λb o d=>Heap.get?_push_of_some _ (m b o d);have k:(g.push (seqObj "list" a.toArray 0)).get? (s.heap.objs.size+1)=⇑(seqObj "list" a.toArray 0):=by rw[← i];exact Heap.get?_push_size _ rfl
 show wpAny _ _ _ _ _ { s with heap:=g.push (seqObj "list" a.toArray 0) };rw[i];let i:Og (g.push (seqObj "list" a.toArray 0)) a f:=_L2.Paired.Cs h λv m q=>q.keep λb o _ d=>j b o d
 let t:∀ v∈a,i7 (g.push (seqObj "list" a.toArray 0)) v=i7 s.heap v:=λv u=>by
  let⟨m,q⟩:=h.mem u;rw[nQ q,nQ (q.keep λb o _ d=>j b o d)]
 refine wpAny_bind (wpAny_holding (wpAny_call_entry slot_list_sort ⟨_,k,1⟩ entry_list_sort (xx (s:={ s with heap:=g.push (seqObj "list" a.toArray 0) }) k i p λc b o=>⟨Y,wpAny_pure ⟨Y,?_⟩⟩) (args_list_sort _)))
 let q:Up (i7 s.heap) (arrOf c) (pairsOf a).size:=λi j u d=>by
  let m:∀ k,k<(pairsOf a).size->kp (i7 s.heap) (arrOf c) k=kp (i7 (g.push (seqObj "list" a.toArray 0))) (arrOf c) k:=λk g=>by
   let v:k<(arrOf c).size:=by rw[b.size_eq];exact g
   let g:(arrOf c)[k]∈(pairsOf a).toList:=(Array.perm_iff_toList_perm.mp b).mem_iff.mp (by simp);rw[pairsOf_toList]at g;unfold kp;rw[getElem?_pos _ k v];show i7 s.heap _=i7 _ _;rw[t _ (xS g).1]
  rw[m i ∅,m j d];exact o i j u d
 let z:=r c b q;unfold sortedAll at z;rw[e]at z;exact z
end
end _jP
namespace _gI
open Spec Rows _L2 _cN _fG _vD _jP
theorem zq{d:Cx}{e:_L2.St}{H:Hp}{s:Shared}(I:_L2.Inv d q e H s):∀ {c:WF} {row:Row},bG H c row->Og s.heap (c.map Value.ref) row
 | _,_,.nil=>.nil
 | _,_,.cons (a:=a) (b:=p) h r=>by
  refine .cons ?_ (zq I r);let⟨r,b,f,_⟩:=I.tuple (dO.of h);let⟨o,g,i,n,j⟩:=f
  cases b with
  | cons k b =>
   cases b with
   | cons l b =>
    cases b;let⟨m,rfl⟩:=k;let⟨p,rfl⟩:=l;exact⟨a,m,p,1,o,g,i,n,j⟩
theorem BU:∀ {a:WF} {b:WP},cE (a.map V.ref) b->b=a.map Value.ref
 | [],_,.nil=>rfl
 | _::a,_,.cons e r=>by
  cases e;rw[BU r];rfl
theorem BV:∀ a:List Addr,cE (a.map V.ref) (a.map Value.ref)
 | []=>.nil
 | _::a=>.cons rfl (BV a)
def X8:Value->Addr
 | .ref a=>a
 | _=>0
theorem bG.Oi{H:Hp}:∀ {b:WF} {row:Row} {a:Addr},bG H b row->a∈b->∃ p,j3 H a p
 | _,_,_,.nil,m=>by cases m
 | _,_,_,.cons h r,m=>by
  rcases List.mem_cons.mp m with e|e
  ·exact⟨_,by rw[e];exact h⟩
  ·exact bG.Oi r e
theorem CZ{f:Cx}:jQ f (.builtin "sorted") (λo H Q=>∃ (p:Addr) (c:WF) (b:Row),o=[↥p]/\H p=⇑(.lst (c.map V.ref))/\bG H c b/\↑b<64/\
  ∀ (l:Addr) (q:WF) (g:Row),H l=none->g.Perm b->g.Pairwise Le->bG H q g->Q ↥l (aL H l (.lst (q.map V.ref)))):=by
 intro M s N H o O Q I w h;let⟨p,c,b,rfl,y,i,z,A⟩:=h;let⟨R,rfl,B⟩:=vals1 w;cases B;let⟨B,M,C,w,N,D⟩:=I.yp y;let F:=BU w;subst F;let r:=zq I i;let w:=i.len;let y:↑(c.map Value.ref)<64:=by rw[cC,w];exact z
 refine CY (a:=c.map Value.ref) ⟨_,D,1,C,1⟩ r y λd j G=>?_;have k:=Array.perm_iff_toList_perm.mp j;rw[pairsOf_toList]at k
 let t:∀ x∈(arrOf d).toList,∃ a∈c,x.1=↥a/\x.2=↥a/\j3 H a (i7 s.heap x.1):=λx m=>by
  let⟨w,J⟩:=xS (k.mem_iff.mp m);let⟨a,u,e⟩:=List.mem_map.mp w;let⟨w,v⟩:=i.Oi u;let n:=zq I (.cons v .nil:bG H [a] [w])
  cases n with
  | cons n _ =>
   refine⟨a,u,e.symm,by rw[J,e],?_⟩;rw[← e,nQ n];exact v
 let u:((arrOf d).map (·.2)).toList=((arrOf d).toList.map λx=>X8 x.1).map Value.ref:=by
  rw[Array.toList_map,List.map_map];refine List.map_congr_left λx m=>?_;let⟨a,_,e,i,_⟩:=t x m;show x.2=Value.ref (X8 x.1);rw[e,i];rfl
 let v:∀ L:List Keyed,(∀ x∈L,∃ a∈c,x.1=↥a/\x.2=↥a/\j3 H a (i7 s.heap x.1))->bG H (L.map λx=>X8 x.1) (L.map λx=>i7 s.heap x.1):=by
  intro L
  induction L with
  | nil=>intro _;exact .nil
  | cons x L n =>
   intro i;let⟨a,_,e,_,a⟩:=i x (by simp);refine .cons ?_ (n λy m=>i y (kY _ m));rw[e]at a;show j3 H (X8 x.1) (i7 s.heap x.1);rw[e];exact a
 let J:∀ {e:WP} {b:Row},Og s.heap e b->(e.zip e).map (λx=>i7 s.heap x.1)=b:=by
  intro e
  induction e with
  | nil=>intro b h;cases h;rfl
  | cons a e n =>
   intro b h
   cases h with
   | cons a e =>
    rw[List.zip_cons_cons,jv,n e,nQ a]
 let m:((arrOf d).toList.map λx=>i7 s.heap x.1).Perm b:=by
  let a:=k.map λx=>i7 s.heap x.1;rw[J r]at a;exact a
 let n:((arrOf d).toList.map λx=>i7 s.heap x.1).Pairwise Le:=by
  rw[List.pairwise_iff_getElem];intro i h k a r;rw[cC,Array.length_toList]at k a;let e:=G i h (gn r) (by rw[← j.size_eq];exact a);unfold kp at e;rw[getElem?_pos _ i k,getElem?_pos _ h a]at e;simpa using e
 let⟨a,e⟩:=sortedAll_at s.heap (c.map Value.ref) ((arrOf d).map (·.2))
 let h:↑((arrOf d).toList.map λx=>X8 x.1)<=sizeLine:=by
  rw[cC,Array.length_toList,j.size_eq,pairsOf_size];have:(64:Nat)<=sizeLine:=by decide
  lia
 refine⟨.ref (s.heap.objs.size+1),_,I.laid (t':=s.toks) (λj k i=>sortedAll_old i) (Nat.le_succ _) (show gA f.prog f.w _ _ _ (.lst (((arrOf d).toList.map λx=>X8 x.1).map V.ref)) from ⟨by rw[cC];exact h,_,a,BV _,?_⟩),1,A _ _ _ (I.hok.fresh (Nat.le_succ _)) m n (v _ t)⟩;rw[e,← u]
end _gI
namespace _gI
open Spec Rows _L2 _cN _fG _vD _jP
def In(r:Row)(x:Int):Prop:=∃ p∈r,p.1<=x/\x<p.2
def Ok(r:Row):Prop:=∀ p∈r,p.1<=p.2
theorem ux:∀ {n:Nat} {s x:Int},x∈run s n↔s<=x/\x<s+n
 | 0,s,x=>by simp[run]
 | n+1,s,x=>by
  rw[run,List.mem_cons,ux];lia
def jH{p:Int × Int}{x:Int}:x∈gx p↔p.1<=x/\x<p.2:=by
 unfold gx;rw[ux];lia
def jq{r:Row}{x:Int}:x∈bC r↔In r x:=by
 unfold bC In;rw[List.mem_flatMap];exact⟨λ⟨p,a,b⟩=>⟨p,a,jH.mp b⟩,λ⟨p,a,b⟩=>⟨p,a,jH.mpr b⟩⟩
theorem C0{x:Int}:¬ In [] x:=λ⟨_,h,_⟩=>by cases h
def nR{r q:Row}{x:Int}:In (r++q) x↔In r x\/In q x:=by
 unfold In;constructor
 ·rintro⟨p,a,h⟩;exact (List.mem_append.mp a).elim (λz=>.inl ⟨p,z,h⟩) λz=>.inr ⟨p,z,h⟩
 ·rintro (⟨p,a,h⟩|⟨p,a,h⟩)
  ·exact⟨p,n9 _ a,h⟩
  ·exact⟨p,nE _ a,h⟩
def HL{p:Int × Int}{x:Int}:In [p] x↔p.1<=x/\x<p.2:=by
 unfold In;constructor
 ·rintro⟨q,a,h⟩;rw[List.mem_singleton.mp a]at h;exact h
 ·intro h;exact⟨p,by simp,h⟩
def RP{r q:Row}(h:r.Perm q){x:Int}:In r x↔In q x:=by
 unfold In;constructor
 ·rintro⟨p,a,g⟩;exact⟨p,h.mem_iff.mp a,g⟩
 ·rintro⟨p,a,g⟩;exact⟨p,h.mem_iff.mpr a,g⟩
def Oj{r:Row}(a:Ok r){x:Int}:In (cD r) x↔In r x:=by rw[← jq,← jq,kC r a]
def uy(r:Row):Prop:=r.Pairwise (λp q=>p.2<q.1)/\∀ p∈r,p.1<p.2
theorem EU:∀ (n:Nat) (s:Int),(run s n).Pairwise (·<·)
 | 0,_=>.nil
 | n+1,s=>by
  rw[run,List.pairwise_cons];exact⟨λx a=>by have:=ux.mp a;lia,EU n (s+1)⟩
theorem uy.rise:∀ {r:Row},uy r->(bC r).Pairwise (·<·)
 | [],_=>.nil
 | p::r,h=>by
  let e:bC (p::r)=gx p++bC r:=by unfold bC;rw[jb]
  rw[e,List.pairwise_append];let⟨b,a⟩:=List.pairwise_cons.mp h.1;refine⟨EU _ _,uy.rise ⟨a,λq a=>h.2 q (kY _ a)⟩,λx c y d=>?_⟩;let⟨q,a,e,f⟩:=jq.mp d;have:=(jH.mp c).2;have:=b q a;lia
theorem uy.ok{r:Row}(h:uy r):Ok r:=λp a=>Int.le_of_lt (h.2 p a)
def Ol{b:Wp}(h:b.Pairwise (·<·)):uy (cL b):=by
 let z:∀ (b:Wp) (t:Row),uy t->(∀ p∈t.getLast?,∀ n∈b,p.2<=n)->b.Pairwise (·<·)->uy (b.foldl (λt n=>jj t n (n+1)) t):=by
  intro b
  induction b with
  | nil=>intro t h _ _;exact h
  | cons n b m =>
   intro t h j w;let⟨o,r⟩:=List.pairwise_cons.mp w;rw[jV];refine m _ ?_ ?_ r
   ·rcases l6 t with rfl|⟨s,q,rfl⟩
    ·rw[jA];exact⟨by simp,λp a=>by rw[List.mem_singleton.mp a];show n<n+1;lia⟩
    ·rw[kj]at h j ⊢;let m:=j q (by rw[lN];rfl) n (by simp);let⟨k,d⟩:=h;let⟨j,m,l⟩:=List.pairwise_append.mp k;by_cases c:q.2=n
     ·rw[jB _ c];refine⟨List.pairwise_append.mpr ⟨j,by simp,λf g u i=>?_⟩,λp a=>?_⟩
      ·rw[List.mem_singleton.mp i];exact l f g q (by simp)
      ·rcases List.mem_append.mp a with e|e
       ·exact d p (n9 _ e)
       ·rw[List.mem_singleton.mp e];have:=d q (by simp);show q.1<n+1;lia
     ·rw[jC _ c];refine⟨List.pairwise_append.mpr ⟨k,by simp,λf g u i=>?_⟩,λp a=>?_⟩
      ·rw[List.mem_singleton.mp i];show f.2<n;rcases List.mem_append.mp g with e|e
       ·have:=l f e q (by simp);have:=d q (by simp);lia
       ·rw[List.mem_singleton.mp e];lia
      ·rcases List.mem_append.mp a with e|e
       ·exact d p e
       ·rw[List.mem_singleton.mp e];show n<n+1;lia
   ·intro p a d f
    let e:p.2=n+1:=by
     rcases l6 t with rfl|⟨s,q,rfl⟩
     ·rw[jA]at a;have:(n,n+1)=p:=by simpa using a
      rw[← this]
     ·rw[kj]at a;by_cases c:q.2=n
      ·rw[jB _ c,lN]at a;have:(q.1,n+1)=p:=by simpa using a
       rw[← this]
      ·rw[jC _ c,lN]at a;have:(n,n+1)=p:=by simpa using a
       rw[← this]
    have:=o d f;lia
 exact z b [] ⟨.nil,λp a=>by cases a⟩ (λp a=>by simp at a) h
def EV{a:Wp}{x:Int}:In (cL a) x↔x∈a:=by rw[← jq,eT]
def fP(t:Row)(p:Int × Int):Row :=
 match t.getLast? with
 | some l=>if p.1<=l.2 then t.dropLast++[(l.1,if p.2 > l.2 then p.2 else l.2)] else t++[p]
 | none=>t++[p]
def sP(t:Row){l p:Int × Int}(h:p.1<=l.2):fP (t++[l]) p=t++[(l.1,if p.2 > l.2 then p.2 else l.2)]:=by
 unfold fP;rw[lN];show (if p.1<=l.2 then (t++[l]).dropLast++[(l.1,if p.2 > l.2 then p.2 else l.2)] else _)=_;rw[if_pos h,List.dropLast_concat]
def sQ(t:Row){l p:Int × Int}(h:¬ p.1<=l.2):fP (t++[l]) p=t++[l]++[p]:=by
 unfold fP;rw[lN];show (if p.1<=l.2 then (t++[l]).dropLast++[(l.1,if p.2 > l.2 then p.2 else l.2)] else t++[l]++[p])=_;rw[if_neg h]
def Om(L:Row):∀ t:Row,↑(L.foldl fP t)<=↑t+↑L:=by
 induction L with
 | nil=>intro t;simp
 | cons p L a =>
  intro t;rw[jV,fE];let b:=a (fP t p)
  let b:↑(fP t p)<=↑t+1:=by
   rcases l6 t with rfl|⟨c,q,rfl⟩
   ·exact fH _
   ·rw[kj];by_cases c:p.1<=q.2
    ·rw[sP _ c,dh,dh,nC,nC];lia
    ·rw[sQ _ c,dh,dh];exact fH _
  lia
def RQ:∀ (L t:Row),L.Pairwise Le->(∀ p∈L,p.1<p.2)->uy t->(∀ l∈t.getLast?,∀ p∈L,l.1<=p.1)->uy (L.foldl fP t)/\∀ x,In (L.foldl fP t) x↔In t x\/In L x:=by
 intro L
 induction L with
 | nil=>intro t _ _ h _;exact⟨h,λx=>⟨.inl,λz=>z.elim id λw=>absurd w C0⟩⟩
 | cons p L u =>
  intro t v i j k;let⟨y,A⟩:=List.pairwise_cons.mp v;let m:=i p (by simp);let lo:∀ q∈L,p.1<=q.1:=λq a=>by have:=y q a;unfold Le at this;lia
  let step:uy (fP t p)/\(∀ x,In (fP t p) x↔In t x\/In [p] x)/\∀ l∈(fP t p).getLast?,l.1<=p.1:=by
   rcases l6 t with rfl|⟨B,q,rfl⟩
   ·refine⟨⟨by simp[fP],λr b=>by rw[List.mem_singleton.mp b];exact m⟩,λx=>?_,λl h=>?_⟩
    ·show In [p] x↔_;exact⟨.inr,λz=>z.elim (λw=>absurd w C0) id⟩
    ·have:p=l:=by simpa [fP] using h
     rw[← this];exact Int.le_refl _
   ·rw[kj]at j k ⊢;let⟨n,c⟩:=j;let⟨w,j,o⟩:=List.pairwise_append.mp n;let j:=c q (by simp);let C:=k q (by rw[lN];rfl) p (by simp);by_cases s:p.1<=q.2
    ·rw[sP _ s];refine⟨⟨List.pairwise_append.mpr ⟨w,by simp,λd f D g=>?_⟩,λr b=>?_⟩,λx=>?_,λl h=>?_⟩
     ·rw[List.mem_singleton.mp g];exact o d f q (by simp)
     ·rcases List.mem_append.mp b with e|e
      ·exact c r (n9 _ e)
      ·rw[List.mem_singleton.mp e];show q.1<(if p.2 > q.2 then p.2 else q.2)
       split <;> lia
     ·rw[nR,nR,HL,HL,HL];show In B x\/(q.1<=x/\x<(if p.2 > q.2 then p.2 else q.2))↔_;constructor
      ·rintro (z|z)
       ·exact .inl (.inl z)
       ·by_cases e:x<q.2
        ·exact .inl (.inr ⟨z.1,e⟩)
        ·refine .inr ⟨by lia,?_⟩;have:=z.2
         split at this <;> lia
      ·rintro ((z|z)|z)
       ·exact .inl z
       ·refine .inr ⟨z.1,?_⟩
        split <;> lia
       ·refine .inr ⟨by lia,?_⟩
        split <;> lia
     ·rw[lN]at h;have:(q.1,if p.2 > q.2 then p.2 else q.2)=l:=by simpa using h
      rw[← this];exact C
    ·rw[sQ _ s];refine⟨⟨List.pairwise_append.mpr ⟨n,by simp,λd f D g=>?_⟩,λr b=>?_⟩,λx=>nR,λl h=>?_⟩
     ·rw[List.mem_singleton.mp g];rcases List.mem_append.mp f with e|e
      ·have:=o d e q (by simp);lia
      ·rw[List.mem_singleton.mp e];lia
     ·rcases List.mem_append.mp b with e|e
      ·exact c r e
      ·rw[List.mem_singleton.mp e];exact m
     ·rw[lN]at h;have:p=l:=by simpa using h
      rw[← this];exact Int.le_refl _
  let⟨b,c⟩:=u (fP t p) A (λq a=>i q (kY _ a)) step.1 λl h q a=>Int.le_trans (step.2.2 l h) (lo q a);refine⟨b,λx=>?_⟩;rw[jV,c,step.2.1];have e:In (p::L) x↔In [p] x\/In L x:=nR (r:=[p]) (q:=L);rw[e];exact or_assoc
def Lu{L a:Row}(h:L.Perm a)(g:L.Pairwise Le)(c:∀ p∈a,p.1<p.2):uy (L.foldl fP [])/\∀ x,In (L.foldl fP []) x↔In a x:=by
 let⟨d,e⟩:=RQ L [] g (λp b=>c p (h.mem_iff.mp b)) ⟨.nil,λp b=>by cases b⟩ (λl b=>by simp at b);refine⟨d,λx=>?_⟩;rw[e,RP h];exact⟨λz=>z.elim (λw=>absurd w C0) id,.inr⟩
end _gI
namespace _gI
open Spec Rows _L2 _cN _fG _vD _jP
def Lv(r:Row)(x:Int):Bool:=r.any λp=>decide (p.1<=x)&&decide (x<p.2)
def iW{r:Row}{x:Int}:Lv r x=true↔In r x:=by
 unfold Lv In;rw[List.any_eq_true];constructor
 ·rintro⟨p,a,h⟩;rw[Bool.and_eq_true]at h;exact⟨p,a,of_decide_eq_true h.1,of_decide_eq_true h.2⟩
 ·rintro⟨p,a,b,c⟩;exact⟨p,a,by rw[Bool.and_eq_true];exact⟨decide_eq_true b,decide_eq_true c⟩⟩
def iE(r:Row)(a:Wp):Wp:=a.filter λx=>!Lv r x
def vH{r:Row}{a:Wp}(h:∀ x∈a,¬ In r x):iE r a=a:=by
 unfold iE;rw[List.filter_eq_self];intro x b
 cases e:Lv r x with
 | false=>rfl
 | true=>exact absurd (iW.mp e) (h x b)
def HM{r:Row}{a:Wp}(h:∀ x∈a,In r x):iE r a=[]:=by
 unfold iE;rw[List.filter_eq_nil_iff];intro x b;rw[iW.mpr (h x b)];simp
def qt{r q:Row}{a:Wp}(h:∀ x∈a,In r x↔In q x):iE r a=iE q a:=by
 unfold iE;refine List.filter_congr λx b=>?_
 cases e:Lv r x with
 | true=>rw[iW.mpr ((h x b).mp (iW.mp e))]
 | false =>
  cases c:Lv q x with
  | true=>rw[iW.mpr ((h x b).mpr (iW.mp c))]at e;cases e
  | false=>rfl
def oB(r:Row)(a b:Wp):iE r (a++b)=iE r a++iE r b:=by unfold iE;rw[List.filter_append]
def lo(b:Int):Int->Row->Row
 | l,[]=>[(l,b)]
 | l,p::r=>if p.1<b then (l,if p.1 > l then p.1 else l)::lo b (if b<p.2 then b else p.2) r else [(l,b)]
def EW{a b c:Int}(h:a<=b)(g:b<=c):gx (a,c)=gx (a,b)++gx (b,c):=by
 unfold gx;show run a (c-a).toNat=run a (b-a).toNat++run b (c-b).toNat;let e:(c-a).toNat=(b-a).toNat+(c-b).toNat:=by lia
 rw[e]
 let z:∀ (n m:Nat) (s:Int),run s (n+m)=run s n++run (s+n) m:=by
  intro n
  induction n with
  | zero=>intro m s;simp[run]
  | succ n d =>
   intro m s;rw[Nat.succ_add,run,run,d,List.cons_append];congr 3;lia
 rw[z];congr 2;lia
theorem Ur(b:Int):∀ (r:Row) (l:Int),l<=b->(∀ p∈r,l<p.2)->uy r->Ok (lo b l r)/\bC (lo b l r)=iE r (gx (l,b))/\(∀ p∈lo b l r,l<=p.1)
 | [],l,h,_,_=>by
  refine⟨λp a=>?_,?_,λp a=>?_⟩
  ·rw[List.mem_singleton.mp a];exact h
  ·rw[vH λx _=>C0];exact fC _
  ·rw[List.mem_singleton.mp a];exact Int.le_refl _
 | p::r,l,h,s,R=>by
  rw[lo];let t:=R.2 p (by simp);let t:=s p (by simp);let⟨n,u⟩:=List.pairwise_cons.mp R.1;by_cases o:p.1<b
  ·rw[if_pos o];obtain⟨m,s⟩:∃ m,m=(if p.1 > l then p.1 else l):=⟨Y⟩;obtain⟨k,t⟩:∃ k,k=(if b<p.2 then b else p.2):=⟨Y⟩;rw[← s,← t]
   let g:l<=m/\m<=k/\k<=b/\p.1<=m/\k<=p.2/\(m=l\/m=p.1)/\(k=b\/k=p.2):=by
    rw[s,t]
    split <;> split <;> lia
   let⟨v,w,y⟩:=Ur b r k g.2.2.1 (λq a=>by have:=n q a;have:=R.2 q (kY _ a);lia) ⟨u,λq a=>R.2 q (kY _ a)⟩;refine⟨λq a=>?_,?_,λq a=>?_⟩
   ·rcases List.mem_cons.mp a with e|e
    ·rw[e];exact g.1
    ·exact v q e
   ·let e:bC ((l,m)::lo b k r)=gx (l,m)++bC (lo b k r):=by unfold bC;rw[jb]
    rw[e,w,EW (a:=l) (b:=m) (c:=b) g.1 ∅,EW (a:=m) (b:=k) (c:=b) g.2.1 g.2.2.1,oB,oB]
    let z:iE (p::r) (gx (l,m))=gx (l,m):=vH λx d=>by
     let f:=jH.mp d;rintro⟨q,a,i,j⟩;rcases List.mem_cons.mp a with c|c
     ·rw[c]at i;simp only at f;lia
     ·have:=n q c;simp only at f;lia
    let A:iE (p::r) (gx (m,k))=[]:=HM λx d=>⟨p,by simp,by have:=(jH.mp d).1;simp only at this;lia,by have:=(jH.mp d).2;simp only at this;lia⟩
    let B:iE (p::r) (gx (k,b))=iE r (gx (k,b)):=qt λx d=>by
     let f:=jH.mp d;simp only at f;constructor
     ·rintro⟨q,a,i,j⟩;rcases List.mem_cons.mp a with c|c
      ·rw[c]at j;lia
      ·exact⟨q,c,i,j⟩
     ·rintro⟨q,a,c⟩;exact⟨q,kY _ a,c⟩
    rw[z,A,B,List.nil_append]
   ·rcases List.mem_cons.mp a with e|e
    ·rw[e];exact Int.le_refl _
    ·have:=y q e;lia
  ·rw[if_neg o];refine⟨λq a=>?_,?_,λq a=>?_⟩
   ·rw[List.mem_singleton.mp a];exact h
   ·rw[vH λx d=>?_]
    ·exact fC _
    ·let f:=jH.mp d;simp only at f;rintro⟨q,a,i,j⟩;rcases List.mem_cons.mp a with c|c
     ·rw[c]at i;lia
     ·have:=n q c;lia
   ·rw[List.mem_singleton.mp a];exact Int.le_refl _
theorem Oo(b:Int):∀ (r:Row) (l:Int),↑(lo b l r)<=↑r+1
 | [],_=>fH _
 | p::r,l=>by
  rw[lo];split
  ·rw[fE,fE];have:=Oo b r (if b<p.2 then b else p.2);lia
  ·simp
def eB(a:Row)(x:Int)(n:Nat):Prop:=n<=↑a/\(∀ i p,a[i]?=⇑p->i<n->p.2<=x)/\∀ i p,a[i]?=⇑p->n<=i->x<p.2
def eB.drop{c:Row}{x:Int}{n:Nat}(h:eB c x n):(∀ p∈c.drop n,x<p.2)/\∀ y,x<=y->(In c y↔In (c.drop n) y):=by
 refine⟨λp a=>?_,λy b=>⟨λz=>?_,λz=>?_⟩⟩
 ·let⟨i,b⟩:=List.getElem?_of_mem a;rw[List.getElem?_drop]at b;exact h.2.2 _ p b ∅
 ·let⟨p,a,d,e⟩:=z;let⟨i,b⟩:=List.getElem?_of_mem a;by_cases f:i<n
  ·have:=h.2.1 i p b f;lia
  ·refine⟨p,lK (i:=i-n) ?_,d,e⟩;rw[List.getElem?_drop,show n+(i-n)=i by lia];exact b
 ·let⟨p,a,q⟩:=z;exact⟨p,List.mem_of_mem_drop a,q⟩
theorem uy.drop{r:Row}(h:uy r)(n:Nat):uy (r.drop n):=⟨h.1.drop,λp a=>h.2 p (List.mem_of_mem_drop a)⟩
class inductive Oq
 | mk (r:Addr) (a:Row) (_:vs=[↥r]) (_:bV H r a) (_:↑a<64) (_:Ok a) (_ :
 ∀ (q:Addr) (b:Row) (c:Hp),bV c q b->uy b->(∀ x,In b x↔In a x)->↑b<=↑a->aJ H c->H q=none->Q ↥q c)
class inductive RT
 | mk (r:Addr) (a:Row) (x:Int) (_:vs=[↥r,.int x]) (_:bV H r a) (_:uy a) (_: ∀ n:Nat,eB a x n->Q (.int n) H)
class inductive Ot
 | mk (r:Addr) (a:Row) (x:Int) (_:vs=[↥r,.int x]) (_:bV H r a) (_:uy a) (_:Q (.bl (Lv a x)) H)
class inductive Wc
 | mk (r:Addr) (c:Row) (a b:Int) (_:vs=[.int a,.int b,↥r]) (_:bV H r c) (_:uy c) (_:↑c<=100000) (_:a<=b) (_ :
 ∀ (q:Addr) (L:Row) (d:Hp),bV d q L->Ok L->bC L=iE c (gx (a,b))->(∀ p∈L,a<=p.1)->↑L<=↑c+1->aJ H d->H q=none->Q ↥q d)
class inductive Lw
 | mk (r o:Addr) (a b:Row) (_:vs=[↥r,↥o]) (_:bV H r a) (_:bV H o b) (_:↑a<=5000) (_:↑b<64) (_:Ok a) (_:Ok b) (_ :
 ∀ (q:Addr) (c:Hp),bV c q (cL (iE b (bC a)))->↑(cL (iE b (bC a)))<=↑a*(↑b+1)->aJ H c->H q=none->Q ↥q c)
end _gI
namespace _gI
open Spec Rows _L2 _cN _fG _vD _Wb
structure dz(K:Frag)(C:Addr)(m fJ:Str)(st:Stmt)(ps:UV)(a:Addr)(d:FuncData):Prop where
 F:Ny K m fJ st a d
 b:Binds K d ps []
 mt:Na K C m a
structure ClsAt(K:Frag)(mg:Ya)(x:Str)(C fi:Addr):Prop where
 cl:MF K C
 m:mg x=⇑↥C
 X9:Mk K C fi
def bV.obj{H a:Hp}{r x f:Addr}{b:Row}{g:List (Str × V)}(h:bV H r b)(c:H x=⇑(.ins C f g))(s:cF x H a):bV a r b:=by
 let⟨e,d,i⟩:=h;exact⟨e,s _ _ d (cS d c),i.tups λd i e=>s d _ e (cS e c)⟩
end _gI
namespace _gI
open _L2 _cN _fG
section
variable {p:List Value->Prop}
theorem fb(h:p []):∀ a:List Value,↑a=0->p a:=λa e=>by rw[List.length_eq_zero_iff.mp e];exact h
def Yb{n:Nat}(h:∀ b (a:WP),↑a=n->p (b::a)):∀ a:List Value,↑a=n+1->p a:=by
 intro a e
 cases a with
 | nil=>cases e
 | cons b a=>exact h b a (Nat.succ.inj e)
theorem fe(h:∀ a,p [a]):∀ b:List Value,↑b=1->p b:=Yb λa=>fb (p:=λb=>p (a::b)) (h a)
theorem fg(h:∀ a c,p [a,c]):∀ b:List Value,↑b=2->p b:=Yb λa=>fe (p:=λb=>p (a::b)) (h a)
theorem ft(h:∀ a c d,p [a,c,d]):∀ b:List Value,↑b=3->p b:=Yb λa=>fg (p:=λb=>p (a::b)) (h a)
theorem fu(h:∀ a c d e,p [a,c,d,e]):∀ b:List Value,↑b=4->p b:=Yb λa=>ft (p:=λb=>p (a::b)) (h a)
theorem fv(h:∀ a c d e f,p [a,c,d,e,f]):∀ b:List Value,↑b=5->p b:=Yb λa=>fu (p:=λb=>p (a::b)) (h a)
theorem gk(h:∀ a c d e f g,p [a,c,d,e,f,g]):∀ b:List Value,↑b=6->p b:=Yb λa=>fv (p:=λb=>p (a::b)) (h a)
end
section
variable {K:Frag} {mg:Ya} {h:Heap} {x fJ:Str} {st:Stmt} {f C:Addr} {ps:UV}
def DI.d(q:DI K x st f)(b:K.In h)(G:h.Ns mainGlobals mg)(c:∀ (kV e g:Value) (i:Option Addr) (j k:Value) (a:WP),↑a=↑ps->bindArgs (fnOf x x (mX st) (jz st) (cB st) .none kV e g i j k) ⟨a,[]⟩=pure (ps.zip a):=by bv_decide):∃ l,cy K mg x st ps f l:=by
 let⟨d,m,n,o⟩:=q;let F:=Hg m n o;exact⟨_,F,F.binds c,mg_of b G d⟩
def MI.d(q:MI K C x fJ st f)(b:∀ (kV c e:Value) (g:Option Addr) (i j:Value) (a:WP),↑a=↑ps->bindArgs (fnOf x fJ (mX st) (jz st) (cB st) .none kV c e g i j) ⟨a,[]⟩=pure (ps.zip a):=by bv_decide):∃ l,dz K C x fJ st ps f l:=by
 let⟨d,h,m,n,k⟩:=q;let F:=Hg m n k;exact⟨_,F,F.binds b,⟨d,h,k⟩⟩
def CI.d(q:CI K x C)(a:K.In h)(G:h.Ns mainGlobals mg)(m:Na K C "__init__" b):ClsAt K mg x C b:=by
 let⟨c,d,e,f,g,mk,i⟩:=q;let⟨j,k,l⟩:=m;exact⟨⟨d,e,f,g⟩,mg_of a G c,⟨mk,j,k,i⟩⟩
end
end _gI
namespace _cN
open Spec Rows _L2
theorem j5{a b:Type}{c:a->b->Prop}:∀ {d:List a} {f:List b} {i:Nat} {x:a},Paired c d f->d[i]?=⇑x->∃ y,f[i]?=⇑y/\c x y
 | _,_,_,_,.nil,e=>by simp at e
 | _,_,0,_,.cons r _,e=>by simp at e;subst e;exact⟨Y,r⟩
 | _,_,i+1,x,.cons _ t,e=>by
  let⟨y,g,h⟩:=j5 (i:=i) (x:=x) t (by simpa using e);exact⟨y,by simpa using g,h⟩
theorem wX{b a:Type}{c:b->a->Prop}:∀ {d:List b} {f:List a} {i:Nat} {y:a},Paired c d f->f[i]?=⇑y->∃ x,d[i]?=⇑x/\c x y
 | _,_,_,_,.nil,e=>by simp at e
 | _,_,0,_,.cons r _,e=>by simp at e;subst e;exact⟨Y,r⟩
 | _,_,i+1,y,.cons _ t,e=>by
  let⟨x,g,h⟩:=wX (i:=i) (y:=y) t (by simpa using e);exact⟨x,by simpa using g,h⟩
section
variable {X:Cx} {N:UV} {scope:Scope} {cl:List (Str × Addr)} {C:Addr} {s₀:Shared} {H₀:Hp} {ex:WF} {pn:List (Addr × Obj)} {e:Expr} {ta:TE} {f:Str} {pos:Pos}
theorem JV(a:PE (jf X N scope cl C s₀ H₀ ex pn) e ta)(b:attributeBase e f (jf X N scope cl C s₀ H₀ ex pn).env (eval e (jf X N scope cl C s₀ H₀ ex pn).env)=eval e (jf X N scope cl C s₀ H₀ ex pn).env):PE (jf X N scope cl C s₀ H₀ ex pn) (.Attribute e f pos) (YR X.K ta f):=cY a b
end
end _cN
namespace _cN
open Spec Rows _L2 _gI _vD
def Wd(d e f:TE):TE:=fun a H Q=>d a H λx c=>∃ b,x=↥b/\e' c b/\e a c λy c=>f a c λz c=>∃ a k,c b=⇑(.dK a)/\y=kV k/\↑a<sizeLine/\
 (∀ v,cI a k=⇑v->Q v c)/\(cI a k=none->Q z (aL c b (.dK (fk a k z))))
def Ou{a:Cx}{o e f:Expr}{l n p:TE}(y:PE a o l)(A:PE a e n)(B:PE a f p)(m:M2 a o "setdefault" C e f D):PE a (.Call (.Attribute o "setdefault" C) [e,f] [] D) (Wd l n p):=by
 intro g s h H Q I F;refine wpAny_Call_method m.zt m.few m.line PySem.F.plainAttrs_dict PySem.F.slot_dict_setdefault PySem.F.type_dict_setdefault (dN (y g s h H _ I F) λG J F=>?_);let⟨H,L,q,M,i,N,O,R⟩:=F;subst N;obtain rfl:G=Value.ref i:=M;let⟨F,G,_⟩:=N6 q O;exists F,G;rw[m.trees]
 refine Calls.callWith_builtin rfl (Calls.evalArgs_plain (Calls.spliced_cons (dN (A g J h L _ q R) λI q ⟨J,F,G,S,H⟩ =>
  Calls.spliced_cons (dN (B g q h F _ G H) λb d ⟨z,T,j,t,c,k,u,U,g,W,X⟩=>Calls.spliced_nil ?_))))
 subst U;let⟨q,v,h,d,g⟩:=N4 j.hok u;let q:=↑d;refine call_meetsIn PySem.F.slot_dict_setdefault g.typeIs PySem.F.entry_dict_setdefault (PySem.F.args_dict_setdefault_3 _ _ _) (kt_meets_setdefault (fN a.prog a.w) i (zd S) v b) ⟨h,g,by lia,λh g=>?_,λhn h' x hs=>?_⟩
 ·let r:=d.val k;rw[g]at r
  cases b:cI c k with
  | none=>rw[b]at r;exact (show False from r).elim
  | some w =>
   rw[b]at r;exact⟨w,T,j.tok _,r,W w b⟩
 ·let r:=d.val k;rw[hn]at r
  cases b:cI c k with
  | some w=>rw[b]at r;exact (show False from r).elim
  | none =>
   let g:↑(fk c k z)<=sizeLine:=by have:=iL c k z;lia
   let c:∃ q,h'.get? i=⇑q:=let ⟨q,E,h,_⟩:=x;⟨q,h⟩;exact⟨z,_,xR j (by rw[u];exact True.intro) hs c (Hx g v (d.put k t) x),t,X b⟩
end _cN
namespace _cN
open Spec Rows _L2
end _cN
namespace _cN
open Spec Rows _L2 _gI _vD
end _cN
namespace _fG
open Spec Rows PySem.W _L2
end _fG
namespace _cN
open Spec Rows _L2 _fG
def qu(c:Nat):V:=.str ⟨(List.toArray [c])⟩
def dY(a:List Nat):Str:=⟨a.toArray⟩
def oE(x:Str):dY x.cps.toList=x:=by cases x;rfl
def eZ(a:List Nat):↑(dY a)=↑a:=by show (a.toArray).size=_;simp
def C1{a b:List Nat}(h:dY a=dY b):a=b:=by
 let e:=congrArg (λx:Str=>x.cps.toList) h;simpa [dY] using e
theorem JW:∀ {a:List Nat} {b:WP},cE (a.map qu) b->StrsAre b (a.map λc=>(⟨(List.toArray [c])⟩:Str))
 | [],_,.nil=>.nil
 | c::a,_,.cons ⟨t,e⟩ r=>by
  subst e;exact .cons _ t (JW r)
def HN(a:List Nat):Txt.join (Str.ofString "") (a.map λc=>(⟨(List.toArray [c])⟩:Str))=dY a:=by
 let e:Txt.join (Str.ofString "") (a.map λc=>(⟨(List.toArray [c])⟩:Str))=Str.join (Str.ofString "") (a.map λc=>(⟨(List.toArray [c])⟩:Str)):=by
  let z:=join_plain_closes (Str.ofString "") (a.map λc=>(⟨(List.toArray [c])⟩:Str));exact beq_iff_eq.mp z
 rw[e];let b:(Str.ofString "")=(⟨#[]⟩:Str):=by decide +kernel
 rw[b];clear e b
 induction a with
 | nil=>rfl
 | cons c a f =>
  cases a with
  | nil=>rfl
  | cons d a =>
   rw[jv]at f;let s:Str.join ⟨#[]⟩ ((c::d::a).map λc=>(⟨(List.toArray [c])⟩:Str))=Str.append (Str.append ⟨(List.toArray [c])⟩ ⟨#[]⟩) (Str.join ⟨#[]⟩ ((⟨(List.toArray [d])⟩:Str)::a.map λc=>(⟨(List.toArray [c])⟩:Str))):=rfl;rw[s,f];show (⟨((List.toArray [c])++#[])++(d::a).toArray⟩:Str)=⟨(c::d::a).toArray⟩;simp
theorem BW:∀ a:List Nat,(a.map ((λx:Str=>↑x) ∘ λc=>(⟨(List.toArray [c])⟩:Str))).sum=↑a
 | []=>rfl
 | c::a=>by rw[jv,List.sum_cons,BW a,fE];show 1+_=_;lia
theorem all_range:∀ a:List Bool,(List.range ↑a).all (λi=>a.getD i false)=a.all id
 | []=>rfl
 | b::a=>by
  rw[fE,List.range_succ_eq_map,List.all_cons,List.all_map,List.all_cons,← all_range a];rfl
section
variable {X:Cx}
def AF(p:X.calm=true):jQ X (.type "list") (λi H Q=>∃ a:List Nat,i=[.str (dY a)]/\↑a<=sizeLine/\∀ l,H l=none->Q ↥l (aL H l (.lst (a.map qu)))):=by
 intro A s B H i b Q I r q;let⟨a,rfl,k,t⟩:=q;let⟨u,rfl,w,rfl⟩:=r.one;refine call_list_str (I.ok.hd p) (dY a) w (hn:=by show a.toArray.size<=_;simpa using k) λA q m e r w n=>?_;refine⟨↥s.heap.objs.size,_,I.laid (o:=.lst (a.map qu)) (t':=q) r (fH _) ⟨by rw[cC];exact k,m.toList,e,?_,by simpa using w⟩,1,t _ (I.hok.fresh (fH _))⟩
 let x:∀ (a:List Nat) (b:WP),↑b=↑a->(∀ (j:Nat) (v:Value),b[j]?=⇑v->∃ c u,a[j]?=⇑c/\v=Value.str ⟨(List.toArray [c])⟩ u)->cE (a.map qu) b:=by
  intro a
  induction a with
  | nil=>intro b d _;cases b with
   | nil=>exact .nil
   | cons=>simp at d
  | cons c a y=>intro b d o;cases b with
   | nil=>simp at d
   | cons u b =>
    let⟨e,z,f,g⟩:=o 0 u rfl;refine .cons ?_ (y b (by simpa using d) λj v h=>by simpa using o (j+1) v (by simpa using h));have:c=e:=by simpa using f
    subst this;exact⟨z,g⟩
 refine x a m.toList (by have:=n.1;simpa [dY] using this) λj v h=>?_;let⟨c,u,f,g⟩:=n.2 j v (by simpa using h);exact⟨c,u,by simpa [dY] using f,g⟩
def zu:XZ X "str.join" (λx b H Q=>∃ (l:Addr) (a:List Nat),x=.str ""/\b=[↥l]/\H l=⇑(.lst (a.map qu))/\↑a<=1000000/\Q (.str (dY a)) H):=by
 intro g s i H x b v j Q I c d h;let⟨l,a,rfl,rfl,e,g,q⟩:=h;let⟨t,rfl⟩:=c;let⟨u,rfl,f⟩:=d.one;cases (show u=Value.ref l from f);let⟨f,c,d,_⟩:=I.list (bL.of (K:=X.K) e);refine join_list d.isList (JW c) ?_ λc k=>?_
 ·rw[List.map_map];let d:↑(Str.ofString "")=0:=by decide +kernel
  let e:=BW a;rw[d,e];lia
 ·rw[HN];exact⟨.str (dY a),H,I.tok _,⟨c,1⟩,q⟩
def Lx(k:X.calm=true):jQ X (.builtin "all") (λf H Q=>∃ (p:Addr) (a:List Bool),f=[↥p]/\bL X.K H p (a.map V.bl)/\Q (.bl (a.all id)) H):=by
 intro B s C H f D Q I r l;let⟨p,a,rfl,m,q⟩:=l;let⟨u,rfl,n⟩:=r.one;cases (show u=Value.ref p from n);let⟨b,g,l,n⟩:=I.list m;let h:=↑g;rw[cC]at h;let d:=l.isList
 let l:p<s.heap.objs.size:=by
  let⟨o,c,_⟩:=d;exact Heap.lt_size c
 refine call_all_walk (wpAny_pyIter_list d ?_);refine⟨s.heap.objs.size,[s.heap.objs.size,p],[s.heap.objs.size],b.toArray.size,E,λi=>a.getD i false,1,Walks.list (A:=X.A.in1) (I.ok.hd k) s.heap.objs.size p (jN l) b.toArray,⟨⟨_,Heap.get?_push_size _ rfl,V⟩,d.at λo e=>Heap.get?_push_of_some _ e⟩,λi v t w l d x=>?_,λl m y=>?_⟩
 ·let l:b[i]?=⇑v:=by simpa using d
  let⟨d,j,z⟩:=wX g l;rw[fK]at j;let⟨c,A,rfl⟩:=Option.map_eq_some_iff.mp j;cases (show v=Value.bool c from z);refine wpAny_truthy_bool ?_;let e:a.getD i false=c:=by rw[List.getD_eq_getElem?_getD,A];rfl
  let d:w (a.getD i false) t:=x;rw[e]at d;exact d
 ·let e:(List.range b.toArray.size).all (λi=>a.getD i false)=a.all id:=by
   rw[iB,← h];exact all_range a
  rw[e];exact⟨.bl (a.all id),H,I.kept λc o e=>y c o (λz=>by rw[List.mem_singleton.mp z]at e;exact absurd (Heap.lt_size e) (Nat.lt_irrefl _)) (Heap.get?_push_of_some _ e),1,q⟩
def Ov(r e f:R2)(g h i j:TE):TE:=fun a H Q=>g a H λx b=>h a b λy b=>r x y b λz b=>∃ k,z=.bl k/\
 (if k=true then i a b λu c=>e y u c λk c=>∃ d,k=.bl d/\(if d=true then j a c λv a=>f u v a Q else Q (.bl false) c) else Q (.bl false) b)
theorem Ly{c d e:CmpOp}{r i j:R2}{k f g h:Expr}{l m n o:TE}(A:rm X (compareOp c) r)(B:rm X (compareOp d) i)(C:rm X (compareOp e) j)(D:PE X k l)(G:PE X f m)(H:PE X g n)(I:PE X h o)
  (J:lastMarks [c,d,e] [f,g,h]=false:=by with_unfolding_all rfl):PE X (.Compare k [c,d,e] [f,g,h] ab) (Ov r i j l m n o):=by
 intro a s b F Q L M
 refine Compare_chain (dN (D a s b F _ L M) λF L ⟨M,N,O,R,S⟩=>chain_link (dN (G a L b N _ O S) λu L ⟨y,N,O,p,S⟩ =>
  dN (A a L b N M y F u _ O R p S) λz w ⟨x,q,t,T,U,W,v⟩=>?_)) J
 subst W;cases T;refine wpAny_truthy_bool ?_
 cases U with
 | false=>exact ite_ff ⟨.bl false,q,t,1,v⟩
 | true =>
  refine ite_tt (chain_link (dN (H a w b q _ t v) λq F ⟨t,L,M,v,N⟩=>dN (B a F b L y t u q _ M p v N) λu s5 p=>?_));let⟨u,w,x,r5,k5,e5,z⟩:=p;subst e5;cases r5;refine wpAny_truthy_bool ?_
  cases k5 with
  | false=>exact ite_ff ⟨.bl false,w,x,1,z⟩
  | true=>exact ite_tt (chain_last (dN (I a s5 b w _ x z) λp u ⟨w,x,y,z,F⟩=>C a u b x t w q p Q y v z F))
end
def fw(a:List Nat):It:=⟨λi _=>i<↑a,λi H x b=>b=H/\∃ c,a[i]?=⇑c/\x=qu c,λi _=>i=↑a⟩
theorem EX{P:Program}{w:World}{K:Frag}{a:Addr}{b:List Nat}{t:Tok}{g:String}(W:∀ C:Around,C.handled=none->Walks P w C a [a] [a] (dY b).cps.size (SignAt (dY b)) (λi h=>h.IsStrIter a g (dY b) t i))
  (J:∀ (L:Around) (i:Nat) (s:Shared) (Q:ZB) (E:ZB),s.heap.IsStrIter a g (dY b) t i->Q ↥a s->wpAny (model P w) L (pyIter ↥a) Q E s)
  (M:["enumerate","zip","dict_itemiterator","dict_reverseitemiterator","odict_iterator","itertools.zip_longest","itertools.pairwise"].contains g=false):GX P w K tg (fw b) [a] a (λi h=>h.IsStrIter a g (dY b) t i) where
 mem:=by simp
 obj:=λi h c d f=>by
  let e:d=a:=by simpa using f
  subst e;let⟨o,e,l,j⟩:=c;exact⟨o,e,λN z=>by rw[j]at z;cases z⟩
 keep:=λi h j c O=>by
  let⟨o,e,r⟩:=c;exact⟨o,O a (by simp) o e,r⟩
 item:=by
  intro X m n p q i D s F H E I k c r;subst m n p;let⟨u,v,R,x,y,z⟩:=k a (by simp)
  let O:i<(dY b).cps.size:=by
   show i<b.toArray.size;rw[iB];exact r
  refine (W X.A (I.ok.hd q)).item i s _ _ O c λN j A S G B=>?_;let⟨l,T,U,rfl⟩:=S;have N:Inv X D F H { s with heap:=j,toks:=A }:=I.turned (λd o f e=>B d o (by simpa using f) e) u v x y z;let⟨S,e,o,O⟩:=id G;exact⟨Y,Ei (s:={ s with heap:=j,toks:=A }) e o O M ⟨qu l,H,N,⟨T,1⟩,⟨1,l,by simpa [dY] using U,1⟩,G,λd f=>(k d f).1⟩⟩
 done:=by
  intro X m n p q i D s F H E I k c r;subst m n p;let⟨u,v,R,x,y,z⟩:=k a (by simp)
  let e:i=(dY b).cps.size:=by
   show i=b.toArray.size;rw[iB];exact r
  rw[e]at c;exact (W X.A (I.ok.hd q)).done s _ _ c λj A B=>⟨1,I.turned (λd o f e=>B d o (by simpa using f) e) u v x y z⟩
 self:=J
def oo(b:TE):TI:=fun a H R=>b a H λx c=>∃ a,x=.str (dY a)/\R (fw a) c
def Wf{d:Cx}{l:Expr}{i:TE}(n:PE d l i):PI d x l (oo i):=by
 intro j s o H R I h;refine dN (n j s o H _ I h) λr a o=>?_;let⟨y,f,c,p,r⟩:=o;let⟨u,e,q⟩:=r;subst e;let⟨t,rfl⟩:=p
 let k:∀ b∈[a.heap.objs.size],oj d j f b:=λb j=>by
  let e:b=a.heap.objs.size:=by simpa using j
  subst e;exact c.Kz (fH _) (c.hok.fresh (fH _))
 cases m:(dY u).cps.all (·<128) with
 | true=>exact wpAny_pyIter_ascii m ⟨a.heap.objs.size,[a.heap.objs.size],E,f,1,c.kept (t':=a.toks) λb v e=>Heap.get?_push_of_some _ e,EX (t:=t) (λw g=>Walks.strAscii g _ _ t) (λ_ _ _ _ _ g h=>wpAny_pyIter_striter_ascii g h) (by decide),⟨_,Heap.get?_push_size _ rfl,V⟩,k,q⟩
 | false=>exact wpAny_pyIter_wide m ⟨a.heap.objs.size,[a.heap.objs.size],E,f,1,c.kept (t':=a.toks) λb v e=>Heap.get?_push_of_some _ e,EX (t:=t) (λw g=>Walks.strWide g _ _ t) (λ_ _ _ _ _ g h=>wpAny_pyIter_striter_wide g h) (by decide),⟨_,Heap.get?_push_size _ rfl,V⟩,k,q⟩
theorem Lz{a:List Nat}{j:TG}{tt:TT}{k:TE}{l:_L2.St}{H:Hp}{Q:VK}(c:Nat->_L2.St->Hp->Prop)(q:c 0 l H)
  (r:∀ (i:Nat) d b H,a[i]?=⇑d->c i b H->j (qu d) b H fun e t=>tt e t λu m=>if u=true then k e m λv n=>∃ f,n g=⇑(.lst f)/\↑f<sizeLine/\c (i+1) e (aL n g (.lst (f++[v]))) else c (i+1) e m)
  (w:∀ b H,c ↑a b H->Q ↥g H):qH (fw a) g j tt k l H Q:=by
 refine⟨λi o b H=>o=↑a-i/\i<=↑a/\c i b H,⟨↑a,by simp,Nat.zero_le _,q⟩,?_⟩;rintro i o b H ⟨rfl,o,p⟩;by_cases o:i<↑a
 ·refine .inr ⟨o,c (i+1),fun A s x=>⟨↑a-(i+1),by lia,1,o,x⟩,λx s y=>?_⟩;let⟨h,d,y,z⟩:=y;subst h z;exact r i d b _ y p
 ·let h:i=↑a:=by lia
  subst h;exact .inl ⟨1,w b H p⟩
end _cN
namespace _cN
open Spec Rows _L2 _fG _gI
section
variable {X:Cx}
def xT(a b:List Nat):dY a++dY b=dY (a++b):=by
 show (⟨a.toArray++b.toArray⟩:Str)=⟨(a++b).toArray⟩;simp
def ZJ:R2:=λx y H Q=>∃ a b:List Nat,x=.str (dY a)/\y=.str (dY b)/\↑a+↑b<=1000000/\Q (.str (dY (a++b))) H
def RU:rm X (binaryOp .Add) ZJ:=by
 intro e s f H x y v u Q I a b h;let⟨c,d,rfl,rfl,e,q⟩:=h;let⟨t,rfl⟩:=a;let⟨g,rfl⟩:=b;refine PyProof.Rows.add_str (λa b=>?_) (by rw[eZ,eZ];exact gn (aN ∅));rw[xT];exact⟨.str (dY (c++d)),H,I.tok _,⟨a,1⟩,q⟩
end
end _cN
namespace _sR
end _sR
namespace _sR
open Spec Rows
end _sR
namespace _sR
open Spec Rows
end _sR
namespace _sR
open Spec Rows
end _sR
namespace _sR
open Spec Rows
end _sR
namespace _sR
open Spec Rows
end _sR
namespace _sR
open Spec Rows
end _sR
namespace _sR
open Spec Rows _L2
end _sR
namespace _gX
open Spec Rows _L2 _cN Builtin Builtin.Str
def qK(a:List Nat):(dY a).cps.toList=a:=by simp[dY]
def jn(c:Nat):iD->List Nat
 | []=>[]
 | [x]=>x
 | x::y::r=>x++c::jn c (y::r)
theorem Ow(c:Nat):∀ a:iD,Str.join ⟨(List.toArray [c])⟩ (a.map dY)=dY (jn c a)
 | []=>rfl
 | [x]=>rfl
 | x::y::r=>by
  show dY x++⟨(List.toArray [c])⟩++Str.join ⟨(List.toArray [c])⟩ ((y::r).map dY)=_;rw[Ow c (y::r)];refine ext_toList ?_;rw[qK];show ((dY x).cps++(List.toArray [c])++(dY (jn c (y::r))).cps).toList=_;rw[Array.toList_append,Array.toList_append,qK,qK];simp[jn]
end _gX
namespace _gX
open Spec Rows _L2 _cN Builtin Builtin.Str
section
variable {X:Cx}
theorem BX:∀ {a:UV} {b:WP},cE (a.map V.str) b->StrsAre b a
 | [],_,.nil=>.nil
 | _::_,_,.cons r t=>by
  let⟨c,rfl⟩:=r;exact .cons _ c (BX t)
def EY:XZ X "str.join" (λx b H Q=>∃ (l:Addr) (c:Nat) (a:iD),x=.str ⟨(List.toArray [c])⟩/\b=[↥l]/\H l=⇑(.lst (a.map λw=>V.str (dY w)))/\(a.map List.length).sum+↑a<=1000000/\Q (.str (dY (jn c a))) H):=by
 intro k s m H x b v n Q I d e h;let⟨l,c,a,rfl,rfl,f,k,q⟩:=h;let⟨t,rfl⟩:=d;let⟨u,rfl,g⟩:=e.one;cases (show u=Value.ref l from g);let⟨d,e,g,_⟩:=I.list (bL.of (K:=X.K) f);let f:cE ((a.map dY).map V.str) d:=by rw[List.map_map];exact e
 refine join_list g.isList (BX f) ?_ λi k=>?_
 ·rw[List.map_map,cC];let j:↑(⟨(List.toArray [c])⟩:Str)=1:=rfl;let d:a.map ((λx:Str=>↑x) ∘ dY)=a.map List.length:=List.map_congr_left λp _=>eZ p;rw[j,d];lia
 ·let e:Txt.join ⟨(List.toArray [c])⟩ (a.map dY)=dY (jn c a):=by
   show glued _ _=_;rw[StrLaws.glued_eq_join,Ow]
  rw[e];exact⟨.str (dY (jn c a)),H,I.tok _,⟨i,1⟩,q⟩
abbrev eC:=_L2.St->Hp->Str->(Str->Hp->Prop)->Prop
def Yc(X:Cx)(d:List Expr)(m:Nat)(t:eC):Prop:=∀ (c:List (Addr × Obj)) (s:Shared) (a:_L2.St) (H:Hp) (b:Str) (Q:Str->Hp->Prop),_L2.Inv X c a H s->t a H b Q->↑b+m<=1000000->
 wpAny (model X.prog X.w) X.A (joinParts b (evalEach d X.env)) (λu e=>∃ x f b,u=.str x f/\_L2.Inv X c a b e/\Q x b) X.xe s
theorem RV:Yc X [] 0 (λ_ H a Q=>Q a H):=λc s d H a Q I h b =>
 joinParts_nil ⟨a,_,H,1,I.tok _,h⟩ (gn (Nat.lt_of_le_of_lt b (by decide)))
def RW{x:Str}{j:Nat}{b:List Expr}{m:Nat}{t:eC}(h:Yc X b m t):Yc X (.Constant (.str x) j f::b) (↑x+m) (fun a H c Q=>t a H (c++x) Q):=by
 intro d s a H c Q I q e;refine joinParts_consE (joinParts_cons (Calls.Constant_str ?_));let z:=_fG.JO (y:=x) e (fH _);exact⟨z.1,h d _ a H _ Q (I.tok _) q z.2⟩
def JX{e:Expr}{c:TE}{d:List Expr}{m:Nat}{t:eC}(j:PE X e c)(k:Yc X d m t):Yc X (.FormattedValue e (-1) none w::d) (1921+m) (fun a H f Q=>c a H λv b=>∃ i:Int,v=.int i/\i.natAbs.log2<1920/\t a b (f++Str.ofString (toString i)) Q):=by
 intro g s a H f Q I q l;refine joinParts_consE (joinParts_cons (FormattedValue_plain (dN (j g s a H _ I q) λv q n=>?_)));let⟨x,b,o,p,i,r,h,u⟩:=n;subst r;let⟨y,rfl⟩:=p;refine formatField_int_small h ?_;let z:=_fG.JO (y:=Str.ofString (toString i)) l (int_text_len_1921 h);exact⟨z.1,k g _ a b _ Q (o.tok _) u z.2⟩
def Ox{c:List Expr}{m:Nat}{t:eC}(h:Yc X (d::e::c) m t)(k:m<=1000000:=by decide +kernel):PE X (.JoinedStr (d::e::c) l) (fun a H Q=>t a H Str.empty λx b=>Q (.str x) b):=by
 intro f s a H Q I q;refine JoinedStr_many (dN (h f s a H Str.empty _ I q (by show 0+m<=_;lia)) λu n f=>?_);let⟨x,n,b,g,i,j⟩:=f;subst g;exact⟨.str x,b,i,⟨Y⟩,j⟩
end
end _gX
namespace _gX
open Spec Rows _L2 _cN Builtin Builtin.Str
def xy(a:List Nat)(lo b:Option Int):List Nat:=(a.drop (_HT.gH ↑a 0 lo)).take (_HT.gH ↑a ↑a b-_HT.gH ↑a 0 lo)
def EZ(lo a:Option Int)(n:Nat):strSliceIndices lo a 1 n=(List.range (_HT.gH n n a-_HT.gH n 0 lo)).map (_HT.gH n 0 lo+·):=by
 let⟨b,c,d⟩:=tP lo a n;let e:strSliceIndices lo a 1 n=sliceRange (sliceBounds lo a none n).1 (sliceBounds lo a none n).2.1 1:=rfl;rw[e,b,c,sliceRange_one]
def Oz{f:Cx}:eg f (λx lo b H Q=>∃ a:List Nat,x=.str (dY a)/\↑a<=1000000/\Q (.str (dY (xy a lo b))) H):=by
 intro w s y H x z c g lo b A Q I h j m n o;let⟨a,rfl,w,q⟩:=o;let⟨t,rfl⟩:=h;exists "str",_,F.slot_str_getitem.lookup,typeIs_str _ _ _
 obtain⟨l,rfl,p⟩:∃ l:Option (Int × Tok),c=partValue l/\l.map (·.1)=lo:=by
  cases m with
  | none=>exact⟨none,V⟩
  | int i t=>exact⟨⇑(i,t),V⟩
 obtain⟨u,rfl,r⟩:∃ u:Option (Int × Tok),g=partValue u/\u.map (·.1)=b:=by
  cases n with
  | none=>exact⟨none,V⟩
  | int i t=>exact⟨⇑(i,t),V⟩
 refine wpAny_getItem_str_slice (l:=l) (u:=u) (st:=none) j rfl ?_
 let d:slicePicked (dY a) l u none=(List.range (_HT.gH ↑a ↑a b-_HT.gH ↑a 0 lo)).map (_HT.gH ↑a 0 lo+·):=by
  unfold slicePicked;rw[p,r,eZ];exact EZ lo b ↑a
 let e:((slicePicked (dY a) l u none).filterMap ((dY a).cps[·]?))=xy a lo b:=by
  rw[d];unfold xy;have:∀ i,(dY a).cps[i]?=a[i]?:=λi=>by rw[← Array.getElem?_toList,qK]
  simp only[this];let z:=pick_run a.toArray (_HT.gH ↑a 0 lo) (_HT.gH ↑a ↑a b-_HT.gH ↑a 0 lo);simpa using z
 unfold sliceMade;split
 ·rename_i c
  let i:xy a lo b=a:=by
   rw[d]at c;simp only[cC,List.length_range,Bool.and_eq_true,beq_iff_eq,eZ]at c;unfold xy;have:=c.2
   let v:_HT.gH ↑a 0 lo=0:=by
    have:_HT.gH ↑a ↑a b<=↑a:=by
     cases b with
     | none=>exact fH _
     | some k =>
      simp only[_HT.gH]
      split <;> lia
    have:_HT.gH ↑a 0 lo<=↑a:=by
     cases lo with
     | none=>exact Nat.zero_le _
     | some k =>
      simp only[_HT.gH]
      split <;> lia
    lia
   rw[v,List.drop_zero,pO ∅]
  rw[i]at q;exact⟨.str (dY a),H,I,⟨t,1⟩,q⟩
 ·exists ?_
  ·show (((slicePicked (dY a) l u none).filterMap ((dY a).cps[·]?)).toArray).size<=sizeLine;rw[e,iB];unfold xy;rw[gm,l9];exact iC (show _<=1000000 by lia) (by decide)
  ·rw[e];exact⟨.str (dY (xy a lo b)),H,I.tok _,⟨Y⟩,q⟩
end _gX
namespace _gX
open Spec Rows _L2 _cN Builtin Builtin.Str _gI
def dg(n:Int):List Nat:=(Nat.toDigits 10 n.toNat).map Char.toNat
def xU{n:Int}(h:0<=n):Str.ofString (toString n)=dY (dg n):=by
 refine ext_toList ?_;rw[qK];obtain⟨m,rfl⟩:∃ m:Nat,n=(m:Int):=⟨n.toNat,by lia⟩;exact PySem.W.KIN.signs_num m
def HP{n:Int}(a:0<=n)(b:n<10^60):↑(dg n)<=60:=by
 have:=toString_length_le a (k:=60) (by decide) b;rw[xU a,eZ]at this;exact this
end _gX
namespace _gX
open Spec Rows _L2 _cN Builtin Builtin.Str _gI
end _gX
namespace _ot
open Spec Rows PySem.W _L2 _cN _fG
end _ot
namespace _AG
open Spec Rows _L2 _cN _fG _gI
end _AG
namespace _AG
open Spec Rows _L2 _cN _fG _gI PySem.W
section
variable {X:Cx}
def ZK{e:Expr}{f:TE}(j:PE X e f):PE X (.JoinedStr [.FormattedValue e (-1) none p] r) (fun c H Q=>f c H λv a=>(∃ i:Int,v=.int i/\i.natAbs.log2<1920/\Q (.str (Str.ofString (toString i))) a)\/∃ b:List Nat,v=.str (dY b)/\↑b<=100000/\Q (.str (dY b)) a):=by
 intro k s c H Q I q;refine JoinedStr_one (FormattedValue_plain (dN (j k s c H _ I q) λv q k=>?_));let⟨x,a,g,h,l⟩:=k;rcases l with ⟨i,rfl,m,d⟩|⟨b,rfl,n,d⟩
 ·let⟨o,rfl⟩:=h;exact formatField_int_small m ⟨.str _,a,g.tok _,⟨Y⟩,d⟩
 ·let⟨o,rfl⟩:=h;exact formatField_str (λh k=>⟨.str _,a,g.tok _,⟨Y⟩,d⟩) (by rw[eZ];exact iC n (by decide))
end
end _AG
namespace _AG
open Spec Rows _L2 _cN _fG _gI _gX Builtin Builtin.Str
end _AG
namespace _AG
open Spec Rows _L2 _cN Builtin Builtin.Str _gI
end _AG
namespace _fG
open Spec Rows PySem.W _L2
end _fG
namespace _fG
open Spec Rows PySem.W _L2
section
variable {X:Cx} {au:List (Addr × Obj)} {σ:_L2.St} {H:Hp} {s:Shared} {a:Addr}
variable {x m:Str} {st:Stmt} {ps:UV} {f C:Addr} {fd:FuncData} {j k:Nat} {sp:Sp} {e o:Expr} {es:List Expr} {ta:TE} {t:TA} {p jX pos:Pos} {pl:Sem Bool}
variable {te:w2} {i:Nat} {z:Str} {jc:Pos} {c:Expr} {tc:TT} {tx ty:w4} {a b:Stmt} {hs:List Hd}
theorem uz{y:Str}(d:_gI.cy X.K X.mg x st ps f fd)(g:X.mg y=⇑↥f)(G:bq X.prog X.w X.K X.mg X.zt cR k f fd ps sp)(h:jh j X.A)
  (l:PA X (e::es) t) (n:k<=j:=by first|decide|lia) (q:Gl X y:=by rfl) (r:(y == ("__debug__":Str))=false:=by decide) (u:starEach (e::es) X.env=(false,eval e X.env)::starEach es X.env:=by rfl)
  (v:(backTo pos (starEach es X.env)).any (·.1)=false:=by rfl):PE X (.Call (.Name y p) (e::es) [] pos) (Jp sp [] E0 t) :=
 Jr G (h.mono n) q g d.F.kp d.b .nil bR l r u v
end
end _fG
namespace _nk
open Spec Rows PySem.W _L2 _cN _fG
end _nk
namespace _nk
open Spec Rows PySem.W _L2 _cN _fG
open Builtin Builtin.ObjectAttr
end _nk
namespace _nk
open Spec Rows PySem.W _L2 _cN _fG
open Builtin Builtin.ObjectAttr
end _nk
namespace _nk
open Spec Rows PySem.W _L2 _cN _fG
end _nk
namespace _nk
open Spec Rows PySem.W _L2 _cN _fG
open Builtin Builtin.ObjectAttr
end _nk
namespace _nk
open Spec Rows PySem.W _L2 _cN _fG
end _nk
namespace _nk
open Spec Rows PySem.W _L2 _cN _fG
end _nk
namespace _nk
open Spec Rows PySem.W _L2 _cN _fG
end _nk
namespace _nk
open Spec Rows PySem.W _L2 _cN _fG
end _nk
namespace _nk
open Spec Rows PySem.W _L2 _cN _fG
end _nk
namespace _gI
open Spec Rows _L2 _cN _fG _vD
theorem gl{N P:UV}{a:Scope}(b:a.kind=.function:=by rfl)(c:a.isCoroutine=false:=by rfl)(d:a.isGenerator=false:=by rfl)(e:N.Nodup:=by decide +kernel)(f:N.take ↑P=P:=by rfl)(g:∀ x∈P,a.names.lookup x=⇑.local\/a.names.lookup x=⇑.cell:=by decide +kernel)(h:∀ y∈a.names,y.2≠.free:=by decide +kernel):qD N P a:=⟨b,c,d,e,f,g,h⟩
section
variable {P:Program} {w:World} {K:Frag} {mg:Ya} {zt:Heap}
theorem fm{x c:Str}{a:Stmt}{f:Addr}{d:UV}{k:Nat}{e:Sp}(N:UV)(j:Ny K x c a f l)
  (m:∀ (g:Value) (A:Around) (n:List Env) (s:Shared) (H:Hp) (b:List V) (Q:VK) (E:XK),jh k (A.deeper (envOfC c (cB a) s.heap.objs.size f g))->N.Nodup->e b H Q E->
   ∃ t,Jh (CC cR P w K mg zt N c (cB a) f g A n s H E).Ji (jz a) t/\t { nx:=λ_ o=>Q .gc o,rt:=Q } (_L2.start N b) H) (i:qD N d (cB a):=by exact gl) (p:∀ b H Q E,e b H Q E->↑b=↑d:=by clean_wf):bq P w K mg zt cR (k+1) f l d e:=j.ok i p λq r u v y f z B h C=>m q r u v y f z B h i.nd C
end
section
variable {X:Cx}
theorem aX(i:Nat){x:Str}{e:Expr}{a:TE}{c b:Pos}(d:PE X e a)(g:X.N[i]?=⇑x:=by rfl)(h:Loc X.env.scope x:=by ac_rfl)(l:swapsWith e (some (.Name x b)) c.line X.env=pure false:=by rfl)(n:X.fn x=true\/X.env.scope.names.lookup x=⇑.local:=by bv_normalize)(p:X.N.Nodup:=by assumption) :
  PS X (.Assign [.Name x b] e c) (MY a (pV i)):=Vm p g h d l n
theorem bX(i:Nat){x:Str}{c:Pos}(a:X.N[i]?=⇑x:=by rfl)(b:Loc X.env.scope x:=by ac_rfl)(d:X.fn x=true\/X.env.scope.names.lookup x=⇑.local:=by bv_normalize)(g:X.N.Nodup:=by bv_omega):PG X (.Name x c) (pV i):=QJ g a b d
def aP{r:R2}{a b:Expr}{ta d:TE}(g:XY X r)(h:PE X a ta)(i:PE X b d)(l:Jy b:=by exact λ_ _=>rfl):PE X (.Subscript a b c) (YK r ta d):=YZ g h i l
def gu{o i:Expr}{a b:TE}(d:X.A.units+1<cLine)(g:PE X o a)(h:PE X i b)(l:VX i:=by exact λ_ _=>rfl):PE X (.Subscript o i c) (Ul a b):=Rx d g h l
theorem gg{e:Expr}{a:TE}{p:Pos}(d:X.mg "len"=none)(g:PE X e a)(h:Gl X "len":=by rfl)(b:starEach [e] X.env=(false,eval e X.env)::starEach [] X.env:=by rfl):PE X (.Call (.Name "len" p) [e] [] c) (eR (VA X.K) (Nb a yk)):=bU CG h d PySem.boot_len (aa g ah (f:=b)) (by decide) (by decide) b rfl
variable {CX:KL} {j k:Nat} {f C fi:Addr} {fd:FuncData} {ps:UV} {sp:Sp} {E:XK} {m cn q:Str} {st:Stmt} {c jX:Pos} {e o:Expr} {es:List Expr} {ta:TE} {t:TA} {pl:Sem Bool}
def cV(b:PE X o ta)(g:ClsAt X.K X.mg cn C fi)(d:dz X.K C m q st ps f fd)(h:bq X.prog X.w X.K X.mg X.zt CX k f fd ps sp)(i:jh j X.A)(l:nh CX X E)(n:PA X (e::es) t)(p:k<=j:=by first|decide|lia)
  (r:starEach (e::es) X.env=(false,eval e X.env)::starEach es X.env:=by rfl) (u:(backTo c (starEach es X.env)).any (·.1)=false:=by rfl)
  (v:eval (.Call (.Attribute o m jX) (e::es) [] c) X.env=(do
   let a ← eval o X.env
   standAt jX.atName
   let (f,first) ← holding [a] (getMethod a m pl)
   callWith c f first (backTo c (starEach (e::es) X.env)) (backToKw c (keywordEach [] X.env))):=by rfl) :
  PE X (.Call (.Attribute o m jX) (e::es) [] c) (Jq C m sp [] E ta t):=QT b g.cl d.mt h (i.mono p) d.b .nil l n r u v
def gO(b:PE X o ta)(g:ClsAt X.K X.mg cn C fi)(d:dz X.K C m q st ps f fd)(h:bq X.prog X.w X.K X.mg X.zt CX k f fd ps sp)(i:jh j X.A)(l:nh CX X E)(n:k<=j:=by first|decide|lia)
  (p:eval (.Call (.Attribute o m jX) [] [] c) X.env=(do
   let a ← eval o X.env
   standAt jX.atName
   let (f,first) ← holding [a] (getMethod a m pl)
   callWith c f first (backTo c (starEach [] X.env)) (backToKw c (keywordEach [] X.env))):=by rfl) :
  PE X (.Call (.Attribute o m jX) [] [] c) (Jq C m sp [] E ta yk):=Nd b g.cl d.mt h (i.mono n) d.b .nil l p
end
def iy:0<=sizeLine:=by decide
def kH:1<=sizeLine:=by decide
def mT:2<=sizeLine:=by decide
def LA:3<=sizeLine:=by decide
def C2:4<=sizeLine:=by decide
def Wg:5<=sizeLine:=by decide
def ZL:6<=sizeLine:=by decide
theorem sS{x:V}{r:List V}:om (x::r) 0=⇑x:=cP (j:=0) rfl
theorem uA{x y:V}{r:List V}:om (x::y::r) 1=⇑y:=cP (j:=1) rfl
theorem AH{x y z:V}{r:List V}:om (x::y::z::r) 2=⇑z:=cP (j:=2) rfl
theorem AI{x y z u:V}{r:List V}:om (x::y::z::u::r) 3=⇑u:=cP (j:=3) rfl
theorem RX{x y z u v:V}{r:List V}:om (x::y::z::u::v::r) 4=⇑v:=cP (j:=4) rfl
theorem ZM{x y z u v w:V}{r:List V}:om (x::y::z::u::v::w::r) 5=⇑w:=cP (j:=5) rfl
end _gI
namespace _ZN
open Spec Rows _L2 _cN
end _ZN
namespace _gI
open Spec Rows _L2 _cN _fG _vD _ZN
end _gI
namespace _AG
open Spec Rows _L2 _cN _fG _gI PySem.W
end _AG
namespace _nk
open Spec Rows PySem.W _L2 _cN _fG
end _nk
namespace _jP
open Spec Rows _L2 _cN
end _jP
namespace _jP
open Spec Rows _L2 _cN
end _jP
namespace _jP
open Spec Rows _L2 _cN
section
variable {prog:Program} {w:World} {A:Around} {E:ZB} {s:Shared} {z:X1} {key:Keyed->Nat} {kd:SortKind} {st:SortSt} {a b:X1}
end
end _jP
namespace _jP
open Spec Rows _L2 _cN
section
variable {prog:Program} {w:World} {A:Around} {E:ZB} {s:Shared} {z:X1} {key:Keyed->Nat} {kd:SortKind} {st:SortSt} {a b:X1}
end
end _jP
namespace _jP
open Spec Rows _L2 _cN
end _jP
namespace _jP
open Spec Rows _L2 _cN
end _jP
namespace _jP
open Spec Rows _L2 _cN
end _jP
namespace _jP
open Spec Rows _L2 _cN
section
variable {prog:Program} {w:World} {A:Around} {E:ZB} {s:Shared} {z:X1} {key:Keyed->Nat} {kd:SortKind} {st t:SortSt} {a b:X1} {lo hi:Nat}
end
end _jP
namespace _jP
open Spec Rows _L2 _cN
section
variable {prog:Program} {w:World} {A:Around} {E:ZB} {s:Shared} {z:X1} {key:Keyed->Nat} {kd:SortKind} {st t:SortSt}
end
end _jP
namespace _jP
open Spec Rows _L2 _cN
end _jP
namespace _jP
open Spec Rows _L2 _cN
end _jP
namespace _gI
open Spec Rows _L2 _cN _fG _vD _jP
end _gI
namespace _cN
open Spec Rows _L2
open _jP
end _cN
set_option Elab.async false
set_option linter.all false
set_option maxRecDepth 100000
namespace _gI
open _L2 _cN _fG _vD _Wb
structure gq(mg:Ya):Prop where
 eV:mg "len"=none
 jI:mg "list"=none
 JY:mg "tuple"=none
 Ut:mg "int"=none
 HR:mg "bool"=none
 Uu:mg "str"=none
 iX:mg "range"=none
 ZR:mg "zip"=none
 dR:mg "isinstance"=none
 Uv:mg "sum"=none
 E2:mg "min"=none
 zw:mg "max"=none
 ZS:mg "all"=none
 OA:mg "sorted"=none
 nu:∀ f,mg "size"=⇑↥f->mg "size_spans"=⇑↥f
 qv:∀ f,mg "shown"=⇑↥f->mg "shown_weave"=⇑↥f
section
variable {P:Program} {w:World} {K:Frag} {mg:Ya} {zt:Heap}
structure gs(mg:Ya):Prop where
 s:∃ t,mg "MOST_SHEETS"=⇑(.int 40 t)
 w:∃ t,mg "MOST_WEIGHT"=⇑(.int 200 t)
 h:∃ t,mg "HIDDEN"=⇑(.str "#" t)
 n:∃ t,mg "NO_SIGN"=⇑(.str "\n" t)
structure Ds(K:Frag)(mg:Ya)(eO:Nat->Addr)(fc:Nat->FuncData)(C CS CW CB CT CD:Addr):Prop where
 T:gq mg
 G:gs mg
 aR:ClsAt K mg "Library" C (eO 57)
 dH:ClsAt K mg "Shelf" CS (eO 41)
 iN:ClsAt K mg "Well" CW (eO 52)
 j6:ClsAt K mg "Blots" CB (eO 15)
 BY:ClsAt K mg "Ties" CT (eO 50)
 E3:ClsAt K mg "Dues" CD (eO 51)
 lO:gv K CS "states"
 nL:gv K CS "openings"
 sH:gv K CW "signs"
 ug:gv K CW "owners"
 lV:gv K CW "pourings"
 lP:gv K CB "stains"
 CH:gv K CT "given"
 CJ:gv K CT "pairs"
 JG:gv K CD "sums"
 uh:gv K C "well"
 gJ:gv K C "shelf"
 sI:gv K C "blots"
 CK:gv K C "knots"
 JH:gv K C "dues"
 Es:gv K C "book"
 gt:cy K mg "_law_src" Br ["_law_script"] (eO 0) (fc 0)
 qL:cy K mg "_law_next" yr ["_law_src_here","_law_base"] (eO 1) (fc 1)
 gz:cy K mg "_law_whole" wC ["_law_found_here"] (eO 2) (fc 2)
 ZT:cy K mg "_law_same" sr ["_law_found_here","_law_due"] (eO 3) (fc 3)
 Wi:cy K mg "plain" NB ["row"] (eO 4) (fc 4)
 Wj:cy K mg "size" NC ["row"] (eO 5) (fc 5)
 Yd:cy K mg "check_places" rB zl3 (eO 6) (fc 6)
 Wk:cy K mg "pieces" JA zl3 (eO 7) (fc 7)
 gL:cy K mg "part" Ub zl3 (eO 8) (fc 8)
 gN:cy K mg "addresses" su ["row"] (eO 9) (fc 9)
 Wl:cy K mg "spread" JB ["row"] (eO 10) (fc 10)
 Wm:cy K mg "first_reaching" oO ["holes","start"] (eO 11) (fc 11)
 ZU:cy K mg "within" JC ["holes","address"] (eO 12) (fc 12)
 ZV:cy K mg "left_over" yt ["start","stop","holes"] (eO 13) (fc 13)
 Wn:cy K mg "without" yu ["row","other"] (eO 14) (fc 14)
 ZW:dz K CB "__init__" "Blots.__init__" oQ Ku (eO 15) (fc 15)
 ZX:dz K CB "blot" "Blots.blot" wD ["self","row"] (eO 16) (fc 16)
 ZY:dz K CB "lift" "Blots.lift" wG ["self","row"] (eO 17) (fc 17)
 ZZ:dz K CB "hides" "Blots.hides" tT ["self","address"] (eO 18) (fc 18)
 Wq:cy K mg "windows" yv ["items"] (eO 19) (fc 19)
 Wr:cy K mg "below" Hh ["rows","sheets"] (eO 20) (fc 20)
 Z0:cy K mg "way_between" tU ["rows","start","goal"] (eO 21) (fc 21)
 Z1:cy K mg "ring" Uc zl4 (eO 22) (fc 22)
 Z2:cy K mg "item_weight" tV ["item","weights"] (eO 23) (fc 23)
 Z3:cy K mg "weights_below" mq ["rows","sheets"] (eO 24) (fc 24)
 Ws:cy K mg "item_row" Bs ["item","views"] (eO 25) (fc 25)
 OB:cy K mg "views_below" oq ["rows","sheets"] (eO 26) (fc 26)
 OC:cy K mg "shown" ND zl4 (eO 27) (fc 27)
 Z4:cy K mg "goes_on" Ep ["one","other"] (eO 28) (fc 28)
 LG:cy K mg "plain_items" tW ["items"] (eO 29) (fc 29)
 E4:cy K mg "inked" Hj ["row"] (eO 30) (fc 30)
 Wu:cy K mg "dealt" NF ["items","views"] (eO 31) (fc 31)
 Wv:cy K mg "put_among" yx ["items","views","place","others"] (eO 32) (fc 32)
 Sb:cy K mg "put_items" yz ["rows","sheet","place","items"] (eO 33) (fc 33)
 Ww:cy K mg "parted" JD ["items","views","start","stop"] (eO 34) (fc 34)
 Z5:cy K mg "cut_items" yC ["rows","sheet","start","stop"] (eO 35) (fc 35)
 Z6:cy K mg "moved_items" tX ["rows","sheet","start","stop","to"] (eO 36) (fc 36)
 Z7:cy K mg "fixed_items" tY zl4 (eO 37) (fc 37)
 Sd:cy K mg "ink_words" sC ["row"] (eO 38) (fc 38)
 Z8:cy K mg "shown_deed" wH ["deed"] (eO 39) (fc 39)
 Wx:cy K mg "changed" Er ["state","sheet","items"] (eO 40) (fc 40)
 Z9:dz K CS "__init__" "Shelf.__init__" oR Ku (eO 41) (fc 41)
 Se:dz K CS "now" "Shelf.now" yD Ku (eO 42) (fc 42)
 Wy:dz K CS "many" "Shelf.many" wI Ku (eO 43) (fc 43)
 g0:dz K CS "step" "Shelf.step" wJ ["self","changes"] (eO 44) (fc 44)
 E5:dz K CS "check_sheet" "Shelf.check_sheet" mw Yr (eO 45) (fc 45)
 hC:dz K CS "check_moment" "Shelf.check_moment" lD ["self","moment"] (eO 46) (fc 46)
 hE:dz K CS "rows_then" "Shelf.rows_then" jZ ["self","moment"] (eO 47) (fc 47)
 C3:dz K CS "rows" "Shelf.rows" wK Ku (eO 48) (fc 48)
 xf:dz K CS "row" "Shelf.row" yE Yr (eO 49) (fc 49)
 hF:dz K CT "__init__" "Ties.__init__" pZ Ku (eO 50) (fc 50)
 hG:dz K CD "__init__" "Dues.__init__" qb Ku (eO 51) (fc 51)
 hH:dz K CW "__init__" "Well.__init__" qc Ku (eO 52) (fc 52)
 LH:dz K CW "size" "Well.size" yF Ku (eO 53) (fc 53)
 hJ:dz K CW "pour" "Well.pour" yG ["self","hand","text"] (eO 54) (fc 54)
 hP:dz K CW "holds" "Well.holds" qd ["self","row"] (eO 55) (fc 55)
 hT:cy K mg "check_weave" tZ zl4 (eO 56) (fc 56)
 hU:dz K C "__init__" "Library.__init__" mY Ku (eO 57) (fc 57)
 OD:dz K C "enter" "Library.enter" qe ["self","deed","changes"] (eO 58) (fc 58)
 E6:dz K C "change" "Library.change" oS ["self","deed","sheet","items"] (eO 59) (fc 59)
 hV:dz K C "many" "Library.many" rC Ku (eO 60) (fc 60)
 hY:dz K C "begin" "Library.begin" qf ["self","deed","items"] (eO 61) (fc 61)
 Wz:dz K C "fresh" "Library.fresh" qg Ku (eO 62) (fc 62)
 oC:dz K C "ink" "Library.ink" t6 Ku (eO 63) (fc 63)
 WA:dz K C "check_held" "Library.check_held" lE ["self","row"] (eO 64) (fc 64)
 WB:dz K C "pour" "Library.pour" rD ["self","hand","text"] (eO 65) (fc 65)
 hZ:dz K C "put" "Library.put" t7 ["self","sheet","place","row"] (eO 66) (fc 66)
 Sf:dz K C "shown" "Library.shown" qh Yr (eO 67) (fc 67)
 h8:dz K C "cut" "Library.cut" ua ["self","sheet","start","stop"] (eO 68) (fc 68)
 h9:dz K C "quote" "Library.quote" qj ["self","target","place","source","start","stop"] (eO 69) (fc 69)
 xl:dz K C "row" "Library.row" uc Yr (eO 70) (fc 70)
 ia:dz K C "window" "Library.window" oU ["self","target","place","source"] (eO 71) (fc 71)
 ih:dz K C "fix" "Library.fix" ud Yr (eO 72) (fc 72)
 ii:dz K C "move" "Library.move" rE ["self","sheet","start","stop","to"] (eO 73) (fc 73)
 im:dz K CW "check_address" "Well.check_address" lF ["self","address"] (eO 74) (fc 74)
 io:dz K CW "sign" "Well.sign" yH ["self","address"] (eO 75) (fc 75)
 ip:dz K C "veiled" "Library.veiled" lu ["self","row","veil"] (eO 76) (fc 76)
 iq:dz K CW "poured" "Well.poured" ue ["self","hand"] (eO 77) (fc 77)
 WC:dz K C "check_own" "Library.check_own" mz zl2 (eO 78) (fc 78)
 iw:dz K C "blot" "Library.blot" rF zl2 (eO 79) (fc 79)
 iT:dz K C "lift" "Library.lift" rG zl2 (eO 80) (fc 80)
 i3:dz K C "found" "Library.found" mC ["self","sheet","word"] (eO 81) (fc 81)
 i4:cy K mg "_law_sign" yI ["_law_src_here","_law_few"] (eO 82) (fc 82)
 WD:cy K mg "_law_text" sD ["_law_src_here","_law_many"] (eO 83) (fc 83)
 Sg:cy K mg "_law_world" qm [] (eO 84) (fc 84)
 OE:cy K mg "_law_keep" yJ ["_law_world_here","_law_rows"] (eO 85) (fc 85)
 WE:cy K mg "_law_swap" yK ["_law_rows","_law_sheet","_law_entries"] (eO 86) (fc 86)
 i5:cy K mg "_law_spell" wL ["_law_row"] (eO 87) (fc 87)
 E7:cy K mg "_law_show" yL zl5 (eO 88) (fc 88)
 i':cy K mg "_law_reached" rH zl5 (eO 89) (fc 89)
 WG:cy K mg "_law_pieces" uf ["_law_rows","_law_entry"] (eO 90) (fc 90)
 OF:cy K mg "_law_put" Bt ["_law_rows","_law_sheet","_law_place","_law_new"] (eO 91) (fc 91)
 WH:cy K mg "_law_cut" Bu ["_law_rows","_law_sheet","_law_start","_law_stop"] (eO 92) (fc 92)
 WI:cy K mg "_law_weighed" rJ zl5 (eO 93) (fc 93)
 ji:cy K mg "_law_fits" sE zl5 (eO 94) (fc 94)
 jl:cy K mg "_law_after" wM ["_law_world_here","_law_deed_here"] (eO 95) (fc 95)
 oD:dz K C "back" "Library.back" rK ["self","sheet","moment"] (eO 96) (fc 96)
 jp:cy K mg "_law_done" yM ["_law_house","_law_deed_here"] (eO 97) (fc 97)
 WJ:cy K mg "_law_ink_row" rL zl6 (eO 98) (fc 98)
 js:cy K mg "_law_move_by" rM ["_law_src_here","_law_sheet","_law_room"] (eO 99) (fc 99)
 Uw:cy K mg "_law_draw" yN zl6 (eO 100) (fc 100)
 Ux:cy K mg "_law_deed" yO zl7 (eO 101) (fc 101)
 Uy:cy K mg "_law_pour" sF zl7 (eO 102) (fc 102)
 Uz:cy K mg "_law_fresh" wN ["_law_world_here","_law_house"] (eO 103) (fc 103)
 UA:cy K mg "_law_begin" wO zl7 (eO 104) (fc 104)
 UB:cy K mg "_law_read" yP ["_law_world_here","_law_numbers"] (eO 105) (fc 105)
 UC:cy K mg "_law_hide" sG zl7 (eO 106) (fc 106)
 UD:cy K mg "_law_found" wQ ["_law_world_here","_law_numbers","_law_word"] (eO 107) (fc 107)
def fy{b:Type}:List b->b->Nat->b
 | [],d,_=>d
 | a::_,_,0=>a
 | _::l,d,n+1=>fy l d n
structure WK where
 mk ::
 (c9:Program)
 (bu:World)
 (bZ:Frag)
 (cW:Ya)
 (cU:Heap)
 (d7:Nat->Addr)
 (d8:Nat->FuncData)
 (fj:Addr)
 (cO:Addr)
 (dc:Addr)
 (d9:Addr)
 (xA:Addr)
 (HS:Addr)
 (WL:Addr)
 (WM:FuncData)
def WK.Ok(e:WK):Prop:=Ds e.bZ e.cW e.d7 e.d8 e.fj e.cO e.dc e.d9 e.xA e.HS->Ny e.bZ "law" "law" NG e.WL e.WM->bq e.c9 e.bu e.bZ e.cW e.cU cR 48 e.WL e.WM ["_law_script"] (Eo e.bZ)
theorem oI:Nonempty WK:=⟨⟨Classical.choice inferInstance,⟨λ_ _=>0,{ strHash:=λ_=>0,shareClass:=λ_=>0,mergeTok:=id,idOf:=λ_=>0,idOfShared:=λ_ _=>0,followText:=λ_=>false,idOfImm:=λ_=>0 }⟩,[],λ_=>none,Classical.choice inferInstance,λ_=>0,λ_=>Classical.choice inferInstance,0,0,0,0,0,0,0,Classical.choice inferInstance⟩⟩
noncomputable def GJ:WK:=@Classical.epsilon WK oI λe=>¬ e.Ok
theorem oL(h:GJ.Ok)(e:WK):e.Ok:=Classical.byContradiction λn=>Classical.epsilon_spec (p:=λe=>¬ WK.Ok e) ⟨e,n⟩ h
noncomputable def c9:Program:=GJ.c9
noncomputable def bu:World:=GJ.bu
noncomputable def bZ:Frag:=GJ.bZ
noncomputable def cW:Ya:=GJ.cW
noncomputable def cU:Heap:=GJ.cU
noncomputable def d7:Nat->Addr:=GJ.d7
noncomputable def d8:Nat->FuncData:=GJ.d8
noncomputable def fj:Addr:=GJ.fj
noncomputable def cO:Addr:=GJ.cO
noncomputable def dc:Addr:=GJ.dc
noncomputable def d9:Addr:=GJ.d9
noncomputable def xA:Addr:=GJ.xA
noncomputable def HS:Addr:=GJ.HS
noncomputable def WL:Addr:=GJ.WL
noncomputable def WM:FuncData:=GJ.WM
abbrev bW:Prop:=Ds bZ cW d7 d8 fj cO dc d9 xA HS
theorem HU:‹(1,0,["_law_script"],(Ug bZ))›:=λD=>by
 specialize fm ["_law_script"] D.gt.F;let⟨b,a,rfl,c,k⟩:=h;exists _,#v[aM (bJ #[fZ ie rfl D.T.jI tM #[gD jy (pv 0) kg (gj az)],az,az,az])]
 all_goals try dsimp only[aS,aH]
 refine⟨Y,Y,b,Y,c,λp g=>?_⟩;refine⟨p,Y,.inl (bL.of af),λc d=>?_⟩;refine⟨C2,λl b=>?_⟩;let⟨i,j⟩:=NT a none (some 63);let e:c≠l:=aA (H:=aL (aL H p _) c _) af b;let f:aJ H (aL H p (.lst (ir (a.map V.int) none (some 63)))):=ao g _;let g:=f.trans (ao d (.lst (ir (a.map V.int) none (some 63))));refine k l c _ ⟨e,i,0,0,(1),af,?_,by decide,by decide,by decide⟩ (g.trans (ao b _)) (g.free b) (f.free d);rw[aK e,af,j]
theorem fV:‹(1,1,["_law_src_here","_law_base"],sM)›:=λD=>by
 specialize fm ["_law_src_here","_law_base","_law_cell","_law_digit"] D.qL.F;let⟨l,j,m,rfl,S,q,I,k⟩:=h;exists _,#v[vo (c:=VN) (bO (aV gC (aP bH (pv 0) az) az (bh _)) #v[aX 2 az,vo (c:=VO) (bO (aV jR (aP bH (pv 0) az) (gg D.T.eV (aP bH (pv 0) az)) (bh _)) #v[aX 2 (aP bH (aP bH (pv 0) az) (aP bH (pv 0) az)),ng (bx cT (aP bH (pv 0) az) az) (pW (pv 0) az ku)] bg) ?y',ng (bx yf (bx cT (bx cT (bx GZ (aP bH (pv 0) az) az) (bx yf (pv 2) az)) az) az) (pW (pv 0) az ku),bO (aV T8 (pv 2) (bx M6 az az) (bh _)) #v[ng (pv 2) (pW (pv 0) az ku)] bg] bg) ?t',bO (aV Bg (aP bH (pv 0) az) az (bh _)) #v[aX 3 (bx yf (aP bH (pv 0) az) (pv 1)),ng (bx yR (aP bH (pv 0) az) (pv 1)) (pW (pv 0) az ku),aM (pv 3)] bg,aM (bx yf (bx yR (bx yf (bx GZ (aP bH (pv 0) az) az) az) az) (pv 1))]
 all_goals try dsimp only[aS,aH]
 case y' =>
  rintro D z H ⟨l,j,m,rfl,⟨b,f,i,g,r,a,d,n,o,p⟩,k⟩;exists Y,l,Q,V,bL.of a,VM,Y,l,Q,V,bL.of a,Zm,j,Y,.inl (bL.of d),Z,Y;refine dM (λu=>?_) (λu=>?_)
  ·let s:i<(↑f:Int):=by
    let c:=of_decide_eq_true u;rwa [cC]at c
   let⟨v,w⟩:=Rg n s;exists Y,l,Q,V,bL.of a,Zm,Y,l,Q,V,bL.of a,VM,j,Q,V,bL.of d,w;exists Y,l,Q,V,bL.of a,VM,Z,Y,l,E,(1),V,a,1;exact k v _ ⟨b,f,i+1,g,r,af,by rw[aK b];exact d,by lia,o,p⟩ λe c=>aK c
  ·exact k 7 H ⟨b,f,i,g,r,a,d,n,o,p⟩ λe _=>rfl
 case t' =>
  rintro D z H ⟨l,j,m,rfl,S,k⟩;let⟨b,f,i,g,r,a,d,n,o,p⟩:=id S;exists Y,l,Q,V,bL.of a,Q9,Z,Y;refine dM (λw=>?_) (λw=>?_)
  ·refine⟨l,j,m,1,S,λv J x s=>?_⟩;let⟨_,y,z,L,B,C,F,G,M,N⟩:=id x;exists Y,l,Q,V,bL.of C,Zn,Z,.inl ⟨by lia,by lia⟩,Y,Z,(by show (0:Int)<998244353;decide),Z,Z,Z,(by show (0:Int)<2147483647;decide),Y,l,E,3,V,C,1;exists Y,Z,⟨by decide,by decide,by decide⟩,Z,Y;let C:0<=(B*48271+v % 998244353+1) % 2147483647:=Int.emod_nonneg _ (by decide);let t:(B*48271+v % 998244353+1) % 2147483647<2147483647:=Int.emod_lt_of_pos _ (by decide);refine dM (λu=>?_) (λu=>?_)
   ·exists Y,Y,l,E,2,V,af,1;refine k _ _ ⟨b,y,z,v,_,af,?_,G,C,t⟩ λe c=>?_
    ·rw[aK b,aK b];exact F
    ·rw[aK c,aK c];exact s e c
   ·refine k _ _ ⟨b,y,z,L,_,af,?_,G,C,t⟩ λe c=>?_
    ·rw[aK b];exact F
    ·rw[aK c];exact s e c
  ·exact k none H S λe _=>rfl
 refine⟨l,j,m,1,S,λv J x s=>?_⟩;let⟨b,f,i,g,r,a,d,n,o,p⟩:=x;exists Y,l,Q,V,bL.of a,Q9,Z,Y;refine dM (λw=>?_) (λw=>?_)
 ·exists Y,l,Q,V,bL.of a,Q9,Y,Z,q;exists Y,l,Q,V,bL.of a,Q9,Y,Z,⟨q,I⟩,Y,l,E,2,V,a,1;exists Y;refine k (g % m) _ (Int.emod_nonneg _ ∅) (Int.emod_lt_of_pos _ q) ⟨b,f,i,g / m,r,af,?_,n,o,p⟩ λe c=>?_
  ·rw[aK b];exact d
  ·rw[aK c];exact s e c
 ·exists Y,l,Q,V,bL.of a,Zn,Z,.inl ⟨by lia,by lia⟩,Z,(by show (0:Int)<2147483399;decide),Z,⟨by decide,by decide⟩,Y,Z,q;exact k _ _ (Int.emod_nonneg _ ∅) (Int.emod_lt_of_pos _ q) ⟨b,f,i,g,r,a,d,n,o,p⟩ s
theorem E8:qD ["_law_found_here","_law_due","_law_one","_law_other"] ["_law_found_here","_law_due"] (cB sr):=gl
theorem C4:‹(1,2,["_law_found_here"],JL)›:=λD=>by
 specialize fm ["_law_found_here"] D.gz.F;let⟨i,rfl,k⟩:=h;exists _,#v[aM (oh (bU eS rfl D.T.dR xj #[0,oV rfl D.T.Ut PyProof.Rows.boot_int]) (pT (Vh (bU eS rfl D.T.dR xj #[0,oV rfl D.T.HR PyProof.Rows.boot_bool]))))]
 all_goals try dsimp only[aS,aH]
 exact⟨Y,Q,Y,kq.int i,Zq bZ,Y,iF ⟨Y,Q,Y,kq.int i,Zp bZ,Y,k⟩⟩
def AJ(D:bW){n:Nat}(o:bq c9 bu bZ cW cU cR 1 (d7 2) (d8 2) ["_law_found_here"] JL)(p:bq c9 bu bZ cW cU cR (n+1) (d7 3) (d8 3) ["_law_found_here","_law_due"] (yU n)):bq c9 bu bZ cW cU cR (n+2) (d7 3) (d8 3) ["_law_found_here","_law_due"] (yU (n+1)):=by
 refine D.ZT.F.ok E8 (λq H Q E h=>?_) (λG I J s H q Q E k h=>?_)
 ·let⟨x,y,rfl,_⟩:=h;rfl
 let⟨x,y,rfl,h,l⟩:=h;exists _,#v[bO (Cw (GS (pv 1))) #v[aM (MX (GS (pv 0)))] bg,bO (mh (bU eS rfl D.T.dR xj #[1,oV rfl D.T.HR PyProof.Rows.boot_bool])) #v[aM (oh (bU eS rfl D.T.dR xj #[0,oV rfl D.T.HR PyProof.Rows.boot_bool]) (pT (jw eE (pv 0) (pv 1) (bh _))))] bg,bO (mh (bU eS rfl D.T.dR xj #[1,oV rfl D.T.Ut PyProof.Rows.boot_int])) #v[aM (oh (aC D.gz o k #[0]) (pT (jw eE (pv 0) (pv 1) (bh _))))] bg,bO (mh (bU eS rfl D.T.dR xj #[1,oV rfl D.T.Uu PyProof.Rows.boot_str])) #v[aM (oh (bU eS rfl D.T.dR xj #[0,oV rfl D.T.Uu PyProof.Rows.boot_str]) (pT (jw eE (pv 0) (pv 1) (bh _))))] bg,bO (PW.pt (Ec (aV Jo (bU eS rfl D.T.dR xj #[1,oV rfl D.T.jI tM]) (bU eS rfl D.T.dR xj #[0,oV rfl D.T.jI tM]) (bh _)) (Cy (aV Jo (bU eS rfl D.T.dR xj #[1,oV rfl D.T.JY PyProof.Rows.boot_tuple]) (bU eS rfl D.T.dR xj #[0,oV rfl D.T.JY PyProof.Rows.boot_tuple]) (bh _))))) #v[aM nF] bg,bO (aV Jo (gg D.T.eV (pv 0)) (gg D.T.eV (pv 1)) (bh _)) #v[aM nF] bg,eX PassesOwn.never rfl (VJ rfl D.T.ZR #[0,1]) (lg (n:=2) rfl (bS (bX 2) (bS (bX 3) gB))) #v[bO (kZ (mh (aC D.ZT p k #[2,3]))) #v[aM nF] bg],aM nF]
 all_goals try dsimp only[aS,aH]
 let e:=l H (aJ.refl H);rcases h with ⟨r,rfl⟩|⟨a,g,j,t,w,rfl,rfl,d,b,m,A⟩
 ·cases x with
  | gc =>
   refine⟨Y,Y,dM (λ_=>?_) (λc=>absurd (decide_eq_true rfl) c)⟩;exact⟨Y,tt rfl e⟩
  | bl v =>
   refine⟨Y,Y,dM (λc=>absurd (of_decide_eq_true c) (λz=>nomatch z)) (λ_=>?_)⟩;refine⟨Y,Q,Y,kq.bl v,Zo bZ,Y,iF ?_⟩;exact⟨Y,Q,Y,kq.bl v,Zo bZ,Y,iF ⟨Y,Y,1,tt rfl e⟩⟩
  | int i =>
   refine⟨Y,Y,dM (λc=>absurd (of_decide_eq_true c) (λz=>nomatch z)) (λ_=>?_)⟩;refine⟨Y,Q,Y,kq.int i,Zp bZ,Y,gp ?_⟩;refine⟨Y,Q,Y,kq.int i,Zq bZ,Y,iF ?_⟩;exact⟨Y,i,1,Y,iF ⟨Y,Y,1,tt rfl e⟩⟩
  | str v =>
   refine⟨Y,Y,dM (λc=>absurd (of_decide_eq_true c) (λz=>nomatch z)) (λ_=>?_)⟩;refine⟨Y,Q,Y,kq.str v,nf bZ,Y,gp ?_⟩;refine⟨Y,Q,Y,kq.str v,no bZ,Y,gp ?_⟩;refine⟨Y,Q,Y,kq.str v,Zr bZ,Y,iF ?_⟩;exact⟨Y,Q,Y,kq.str v,Zr bZ,Y,iF ⟨Y,Y,1,tt rfl e⟩⟩
  | _=>cases r
 ·refine⟨Y,Y,dM (λc=>absurd (of_decide_eq_true c) (λz=>nomatch z)) (λ_=>?_)⟩;refine⟨Y,Q,Y,b.ty,n' bZ a,Y,gp ?_⟩;refine⟨Y,Q,Y,b.ty,oa bZ a,Y,gp ?_⟩;refine⟨Y,Q,Y,b.ty,oe bZ a,Y,gp ?_⟩;refine⟨Y,Q,Y,b.ty,Zt bZ a,Y,Q,Y,d.ty,Zt bZ a,1,Y,Nz rfl ?_⟩;refine⟨Y,Q,Y,b.ty,Zu bZ a,Y,Q,Y,d.ty,Zu bZ a,1,Y,Nz rfl ?_⟩;refine⟨Y,g,Y,d.or,Y,j,Y,b.or,1,Y,Nz (by rw[m]) ?_⟩;refine⟨Y,Y,a,g,j,t,w,1,d.sq,b.sq,Q7 (λi f c=>∃ u v,f=[⇑↥g,⇑↥j,u,v]/\aJ H c) m ⟨none,none,1,aJ.refl H⟩ (by rintro i f c _ ⟨_,_,_,s⟩;exact⟨(d.same s).sq,(b.same s).sq⟩) ?_ ?_⟩
  ·rintro i u v z f c B C F ⟨_,_,rfl,s⟩;exists z,Y,dO.of af,1,u,[v],1,v,[],V;let a:=s.trans (ao F (.tup [u,v]));refine⟨Y,Y,u,v,1,Eqv.same a (A i u v B C),λd b=>⟨Y,gp ?_⟩⟩;exact⟨E,1,a.trans b⟩
  ·rintro f c ⟨_,_,rfl,s⟩;exact l c s
theorem m6(D:bW):∀ n:Nat,bq c9 bu bZ cW cU cR (n+1) (d7 3) (d8 3) ["_law_found_here","_law_due"] (yU n)
 | 0=>by
  let b:∀ a H Q E,¬ yU 0 a H Q E:=λa H Q E h=>by
   let⟨x,y,_,h,_⟩:=h;exact h
  exact⟨λa H Q E h=>absurd h (b a H Q E),λA c s H args d a Q E _ _ _ _ h=>absurd h (b a H Q E)⟩
 | n+1=>AJ D (C4 D) (m6 D n)
theorem nT:‹(1,4,["row"],Rf)›:=λD=>by
 refine fm ["row","told","start","stop"] D.Wi.F λdF A zn s H vs Q E hr _ h=>?_;let⟨w,row,rfl,⟨J,B,F⟩,R,k⟩:=h;refine⟨_,#v[aX 1 (bJ ah),eX PassesOwn.never rfl (cM (pv 0)) (lg (n:=2) rfl (bS (bX 2) (bS (bX 3) gB))) #v[bO (aV eE (pv 2) (pv 3) (bh _)) #v[Eh] bg,bO (PW.pt (pS (jd (pv 1) (λ_=>rfl)) (mW (aV eE (aP aZ (aP bH (pv 1) (ig fF az)) az) (pv 2) (bh _))))) #v[ng (cZ #[aP aZ (aP bH (pv 1) (ig fF az)) az,3]) (pW (pv 1) (ig fF az) ku)] #v[aT (dX n8 jt ju bT (pv 1) #[cZ #[2,3]])]],aM (pv 1)],?_⟩
 all_goals try dsimp only[aS,aH]
 refine⟨iy,λq g=>?_⟩;let s0:aJ H (aL H q (.lst [])):=ao g _;refine⟨Y,w,1,⟨_,bL.of (s0 _ _ B)⟩,eK (K:=bZ) (e:=w) (b:=J.map V.ref) (λi u c=>∃ (d:WF) (x y:Option V),u=[⇑↥w,⇑↥q,x,y]/\c q=⇑(.lst (d.map V.ref))/\bG c d ((row.take i).foldl dZ [])/\aJ H c) ⟨[],none,none,1,af,.nil,s0⟩ (by rintro i u c _ ⟨_,_,_,_,_,_,s⟩;exact bL.of (s _ _ B)) ?_ ?_⟩
 ·rintro i S u c G ⟨d,x,y,rfl,a,b,s⟩;rw[fK]at G;let⟨L,M,rfl⟩:=Option.map_eq_some_iff.mp G;let⟨⟨f,j⟩,w,B⟩:=F.get M;let step:=BF (f:=dZ) w
  let N:↑d<sizeLine:=by
   let z:=b.len;let e:=EC (row.take i) [];rw[gm]at e;exact aN (by simp only[pR]at e;lia)
  exists L,Y,dO.of (s _ _ B),1,E,1,Z;refine⟨Y,Y,1,Y,dM (λw=>?_) (λw=>?_)⟩
  ·let B:f=j:=V.int.inj (of_decide_eq_true w);refine⟨d,E,1,a,?_,s⟩;rw[step,dZ,if_pos B];exact b
  ·let B:¬ f=j:=λz=>w (decide_eq_true (congrArg V.int z));rw[dZ,if_neg B]at step;rcases l6 ((row.take i).foldl dZ []) with v|⟨i,C,v⟩
   ·rw[v]at b step;let o:d=[]:=List.eq_nil_of_length_eq_zero b.len;subst o;refine⟨Y,false,.inl ⟨_,bL.of a,1⟩,gp (gp ?_)⟩;refine⟨Y,.inl ⟨1,_,bL.of a⟩,Y,Y,mT,λt e=>⟨q,Z,ao e _ _ _ a,(by show 0<sizeLine;decide),?_⟩⟩;let⟨l,m,n⟩:=EB (c:=f) (d:=j) g s a b e;refine⟨[]++[t],E,1,l,?_,n⟩;rw[step,jA];exact m
   ·rw[kj]at v;rw[v]at b step;let⟨o,p,rfl,O,I⟩:=b.split;let r:c q=⇑(.lst (o.map V.ref++[↥p])):=by rw[a,gP];rfl
    refine⟨Y,true,.inl ⟨_,bL.of r,by simp⟩,iF ?_⟩;refine⟨Y,Y,q,Q,V,bL.of r,gE _ _,p,Q,V,dO.of I,Ht,Y,1,Y,dM (λi=>?_) (λi=>?_)⟩
    ·let v:C.2=f:=V.int.inj (of_decide_eq_true i);refine⟨Y,Y,q,Q,V,bL.of r,gE _ _,p,Q,V,dO.of I,Hs,Y,mT,λt e=>?_⟩;exists Y,Y,q,E,↑o,V,ao e _ _ _ r,NZ o p;let⟨l,m,n⟩:=turned (st:=C.1) (en:=j) g s r O e;refine⟨o++[t],E,1,l,?_,n⟩;rw[step,jB _ v];exact m
    ·let v:¬ C.2=f:=λz=>i (decide_eq_true (congrArg V.int z));refine⟨Y,.inl ⟨1,_,bL.of a⟩,Y,Y,mT,λt e=>⟨q,Z,ao e _ _ _ a,(by rw[cC];exact N),?_⟩⟩;let⟨l,m,n⟩:=EB (c:=f) (d:=j) g s a b e;refine⟨o++[p]++[t],E,1,l,?_,n⟩;rw[step,jC _ v];exact m
 ·rintro u c ⟨d,x,y,rfl,a,b,s⟩;refine⟨Y,k q c ⟨d,a,?_⟩ s g⟩;rw[cC,F.len,gU]at b;exact b
theorem C5:‹(1,5,["row"],VS)›:=λD=>by
 specialize fm ["row"] D.Wj.F;let⟨r,row,rfl,⟨i,e,f⟩,n,k⟩:=h;refine⟨_,#v[aM (bU (Ew rfl) rfl D.T.Uv PyProof.Rows.boot_sum #[gS (N:=["start","stop"]) (kG (c:=cB NC) (f:=["row"]) (d:=[none,none]) rfl rfl rfl nofun nofun rfl nofun rfl nofun) rfl (cM (pv 0)) (λ_ _ _ _ _ _=>(qI (n:=2) rfl (bS (bX 0) (bS (bX 1) gB)))) (λ_ _ _ _ _ _=>gQ) (λ_ _ _ _ _ _=>(bx dD (pv 1) (pv 0)))])],?_⟩
 all_goals try dsimp only[aS,aH]
 refine⟨Y,r,1,⟨_,bL.of e⟩,λd g=>gK (K:=bZ) (h:=r) (a:=i.map V.ref) (λi b a=>∃ u v:Option V,b=[u,v]/\a d=⇑(.lst (((row.take i).map λp=>p.2-p.1).map V.int))/\aJ H a) ⟨none,none,1,af,ao g _⟩ (by rintro i b a _ ⟨_,_,_,_,s0⟩;exact bL.of (s0 _ _ e)) ?_ ?_⟩
 ·rintro i x b a j ⟨u,v,rfl,c,s0⟩;rw[fK]at j;let⟨l,m,rfl⟩:=Option.map_eq_some_iff.mp j;let⟨⟨j,n⟩,e,i⟩:=f.get m;refine⟨l,Y,dO.of (s0 _ _ i),1,E,1,Z,yes (iF ?_)⟩;refine⟨Y,Y,Z,_,c,?_,E,1,?_,bP g s0 (aG d _ _)⟩
  ·rw[cC,cC,gm];exact aN ∅
  ·rw[af,take_snoc e,gP,gP];rfl
 ·rintro b a ⟨u,v,rfl,c,s0⟩;rw[cC,f.len,gU]at c;exact⟨d,Y,bL.of c,k a s0⟩
class inductive OG
 | mk (r:Addr) (c:Row) (a b:Int) (_:vs=[↥r,.int a,.int b]) (_:bV H r c) (_:↑c<=1000000) (_:Rt a b (je c)) (_:∀ d,aJ H d->Q .gc d)
theorem iz:‹(2,6,["row","start","stop"],OG)›:=λD=>by
 specialize fm ["row","start","stop"] D.Yd.F;let⟨r,a,d,e,rfl,R,b,z,k⟩:=h;exists _,#v[bO (kZ (Li gC gC gC az (pv 1) (pv 2) (_fG.uz D.Wj (D.T.nu _ D.Wj.m) (C5 D) hr #[0]))) #v[iG] bg]
 all_goals try dsimp only[aS,aH]
 exists Y,Z,Y;rw[decide_eq_true z.1];refine dM (λ_=>?_) (λc=>absurd rfl c);exists Y,Z,Y;rw[decide_eq_true z.2.1];refine dM (λ_=>?_) (λc=>absurd rfl c);refine⟨Y,r,a,1,R,b,λa b=>⟨Z,Y,?_⟩⟩;rw[decide_eq_true z.2.2];exact gp (k a b)
theorem qM:‹(1,7,["row","start","stop"],EF)›:=λD=>by
 refine fm ["row","start","stop","told","ahead","first","last","low","high"] D.Wk.F λdF A zn s H vs Q E hr _ h=>?_
 let⟨r,row,a,b,rfl,⟨x,o,p⟩,N,k⟩:=h;refine⟨_,#v[aX 3 (bJ ah),aX 4 az,eX PassesOwn.never rfl (cM (pv 0)) (lg (n:=2) rfl (bS (bX 5) (bS (bX 6) gB))) #v[aX 7 (bU (lU rfl) rfl D.T.zw PyProof.Rows.boot_max #[bx dD (pv 1) (pv 4),az]),aX 8 (bU (nI rfl) rfl D.T.E2 PyProof.Rows.boot_min #[bx dD (pv 2) (pv 4),bx dD (pv 6) (pv 5)]),bO (aV jR (pv 7) (pv 8) (bh _)) #v[aT (dX n8 jt ju bT (pv 3) #[cZ #[bx cT (pv 5) (pv 7),bx cT (pv 5) (pv 8)]])] bg,rZ (i:=4) (by assumption) rfl (Or.inl rfl) (bx dD (pv 6) (pv 5)) MZ],aM (pv 3)],?_⟩
 all_goals try dsimp only[aS,aH]
 refine⟨iy,λq m=>?_⟩;let s0:aJ H (aL H q (.lst [])):=ao m _;refine⟨Y,r,1,⟨_,bL.of (s0 _ _ o)⟩,eK (K:=bZ) (e:=r) (b:=x.map V.ref) (λi l f=>∃ (d:WF) (t:Int) (u v x y:Option V),l=[⇑↥r,⇑(.int a),⇑(.int b),⇑↥q,⇑(.int t),u,v,x,y]/\t=je (row.take i)/\f q=⇑(.lst (d.map V.ref))/\bG f d (kW a b 0 (row.take i))/\aJ H f) ⟨[],0,none,none,none,none,V,af,.nil,s0⟩ (by rintro i l f _ ⟨_,_,_,_,_,_,_,_,_,_,s⟩;exact bL.of (s _ _ o)) ?_ ?_⟩
 ·rintro i x l f w ⟨d,t,u,v,B,C,rfl,n,g,j,s⟩;rw[fK]at w;let⟨F,G,rfl⟩:=Option.map_eq_some_iff.mp w;let⟨⟨c,e⟩,o,I⟩:=p.get G;let step:=EE a b (c,e) (row.take i) 0;rw[← take_snoc o,Int.zero_add,← n]at step;let y:t+(e-c)=je (row.take (i+1)):=by rw[take_snoc o,NR,n]
  let J:↑d<sizeLine:=by
   let z:=j.len;let o:=j4 a b (row.take i) 0;rw[gm]at o;exact aN ∅
  let L:(if (0:Int) > a-t then (0:Int) else a-t)=max (a-t) 0:=by split <;> lia
  let M:(if e-c<b-t then e-c else b-t)=min (b-t) (e-c):=by split <;> lia
  exists F,Y,dO.of (s _ _ I),1,E,1,Z;exists Y,Y,Z,E,1;exists Y,Y,Z,Y,Y,Z,E,1;rw[L,M];refine⟨Y,Y,Z,Y,dM (λi=>?_) (λi=>?_)⟩
  ·let o:max (a-t) 0<min (b-t) (e-c):=of_decide_eq_true i;unfold N1 at step;rw[if_pos o]at step;refine⟨Y,.inl ⟨1,_,bL.of g⟩,Y,Y,Z,Y,Y,Z,mT,λw r=>⟨q,Z,ao r _ _ _ g,(by rw[cC];exact J),?_⟩⟩;let⟨x,z,F⟩:=EB (c:=c+max (a-t) 0) (d:=c+min (b-t) (e-c)) m s g j r;exists Y,Y,Y,Z,Z;refine⟨d++[w],Q,E,1,y,x,?_,F⟩;rw[step];exact z
  ·let o:¬ max (a-t) 0<min (b-t) (e-c):=λz=>i (decide_eq_true z);unfold N1 at step;rw[if_neg o,gV]at step;exists Y,Y,Y,Z,Z;refine⟨d,Q,E,1,y,g,?_,s⟩;rw[step];exact j
 ·rintro l f ⟨d,t,u,v,B,C,rfl,n,g,j,s⟩;rw[cC,p.len,gU]at j;exact⟨Y,k q f ⟨d,g,j⟩ s m⟩
class inductive Sj
 | mk (r:Addr) (c:Row) (a b:Int) (_:vs=[↥r,.int a,.int b]) (_:bV H r c) (_:↑c<=1000000) (_:Rt a b (je c)) (_:∀ (q:Addr) (d:Hp),bV d q (cD (kW a b 0 c))->aJ H d->H q=none->Q ↥q d)
theorem Sk:‹(3,8,["row","start","stop"],Sj)›:=λD=>by
 specialize fm ["row","start","stop"] D.gL.F;let⟨r,a,b,c,rfl,R,d,z,k⟩:=h;exists _,#v[aT (aC D.Yd (iz D) hr #[0,1,2]),aM (aC D.Wi (nT D) hr #[aC D.Wk (qM D) hr #[0,1,2]])]
 all_goals try dsimp only[aS,aH]
 refine⟨Y,Y,Y,r,a,b,c,1,R,d,z,λf e=>?_⟩;refine⟨Y,Y,Y,r,a,b,c,1,R.same e,d,λq g R2 f i=>?_⟩;refine⟨q,Y,R2,iC (j4 b c a 0) d,λa b c d g=>?_⟩;exact k a b c (e.trans (f.trans d)) (aU (e.trans f) g)
theorem C6:‹(1,9,["row"],Rn)›:=λD=>by
 specialize fm ["row"] D.gN.F;let⟨r,row,rfl,⟨o,b,n⟩,hok,p,k⟩:=h;refine⟨_,#v[aM (vC (N:=["start","stop","address"]) (kG (c:=cB su) (f:=["row"]) (d:=[none,none,none]) rfl rfl rfl nofun nofun rfl nofun rfl nofun) rfl (cM (pv 0)) (λ_ _ _ _ _ _=>(qI (n:=2) rfl (bS (bX 0) (bS (bX 1) gB)))) (λ_ _ _ _ _ _=>gQ) (λ_ _ _ _ _ _=>(Lg rfl D.T.iX #[0,1])) (λ_ _ _ _ _ _=>(bX 2)) (λ_ _ _ _ _ _=>gQ) (λ_ _ _ _ _ _=>(pv 2)))],?_⟩
 all_goals try dsimp only[aS,aH]
 refine⟨Y,r,1,⟨_,bL.of b⟩,λe j=>qp (K:=bZ) (f:=r) (a:=o.map V.ref) (λi a c=>∃ u v z:Option V,a=[u,v,z]/\c e=⇑(.lst ((bC (row.take i)).map V.int))/\aJ H c) ⟨none,none,none,1,af,ao j _⟩ (by rintro i a c _ ⟨_,_,_,_,_,s0⟩;exact bL.of (s0 _ _ b)) ?_ ?_⟩
 ·rintro i x a c d ⟨u,v,z,rfl,f,s0⟩;rw[fK]at d;let⟨q,s,rfl⟩:=Option.map_eq_some_iff.mp d;let⟨⟨b,d⟩,o,r⟩:=n.get s;let s:b<=d:=hok _ (lK o);let step:=yX o
  let o:↑(bC (row.take i))+(d-b).toNat<=1000000:=by
   let z:=rR row (i+1);rw[step,dh,gx,dG]at z;exact iC z p
  refine⟨q,Y,dO.of (s0 _ _ r),1,E,1,Z,yes (iF ?_)⟩;refine⟨Y,Y,b,d,1,EA (lo:=b) (k:=(d-b).toNat) (λo a g=>∃ z:Option V,a=[⇑(.int b),⇑(.int d),z]/\g e=⇑(.lst ((bC (row.take i)++run b o).map V.int))/\aJ H g) ⟨z,1,?_,s0⟩ ?_ ?_⟩
  ·rw[run,gV];exact f
  ·rintro o a g t ⟨z,rfl,l,m⟩;refine Rm ?_;refine iF ?_;refine⟨Y,_,l,?_,Y,?_,bP j m (aG e _ _)⟩
   ·rw[cC,dh,dG];exact aN ∅
   ·rw[af,jD,← ko];simp
  ·rintro a g ⟨z,rfl,l,m⟩;refine⟨Q,1,?_,m⟩;rw[step];exact l
 ·rintro a c ⟨u,v,z,rfl,f,s0⟩;rw[cC,n.len,gU]at f;exact k e c f s0 j
theorem BZ:‹(2,10,["row"],Oq)›:=λD=>by
 refine fm ["row","told","start","stop"] D.Wl.F λdF A zn s H vs Q E hr _ h=>?_;let⟨r,F,rfl,R,eG,ok,ai⟩:=h;refine⟨_,#v[aX 1 (bJ ah),eX PassesOwn.never rfl (cM (bU CZ rfl D.T.OA PyProof.Rows.boot_sorted #[aC D.Wi (nT D) hr #[0]])) (lg (n:=2) rfl (bS (bX 2) (bS (bX 3) gB))) #v[bO (PW.pt (pS (jd (pv 1) (λ_=>rfl)) (mW (aV gC (pv 2) (aP aZ (aP bH (pv 1) (ig fF az)) az) (bh _))))) #v[ng (cZ #[aP aZ (aP bH (pv 1) (ig fF az)) az,bU (lU rfl) rfl D.T.zw PyProof.Rows.boot_max #[aP aZ (aP bH (pv 1) (ig fF az)) az,3]]) (pW (pv 1) (ig fF az) ku)] #v[aT (dX n8 jt ju bT (pv 1) #[cZ #[2,3]])]],aM (pv 1)],?_⟩
 all_goals try dsimp only[aS,aH]
 refine⟨iy,λq N=>?_⟩;let s0:aJ H (aL H q (.lst [])):=ao N _;refine⟨Y,r,F,1,R.same s0,by lia,λR I R1 O Ls=>?_⟩;let⟨ak,h1,p1⟩:=R1;let pl:=iU F;refine⟨R,ak,cD F,1,h1,p1,by lia,λB J L hl RO am pL=>?_⟩;let R:aJ I (aL I B (.lst (J.map V.ref))):=ao hl _;let ab:=pL.same R;let an:=s0.trans (O.trans R);let gF:=(O.trans R) _ _ (af (H:=H) (a:=q) (o:=.lst []))
 let ap:∀ p∈cD F,p.1<p.2:=λp l=>by
  let z:∀ (r t:Row),Ok r->(∀ p∈t,p.1<p.2)->∀ p∈r.foldl dZ t,p.1<p.2:=by
   intro r
   induction r with
   | nil=>intro t _ a;exact a
   | cons c r f =>
    intro t h a;rw[jV];refine f _ (λb g=>h b (kY _ g)) ?_;let ha:=h c (by simp);unfold dZ;by_cases C:c.1=c.2
    ·rw[if_pos C];exact a
    ·rw[if_neg C];rcases l6 t with rfl|⟨g,b,rfl⟩
     ·rw[jA];intro p l;rw[List.mem_singleton.mp l];show c.1<c.2;lia
     ·rw[kj]at a ⊢;let f:=a b (by simp);by_cases d:b.2=c.1
      ·rw[jB _ d];intro p l;rcases List.mem_append.mp l with e|e
       ·exact a p (n9 _ e)
       ·rw[List.mem_singleton.mp e];show b.1<c.2;lia
      ·rw[jC _ d];intro p l;rcases List.mem_append.mp l with e|e
       ·exact a p e
       ·rw[List.mem_singleton.mp e];show c.1<c.2;lia
  exact z F [] ok (λp l=>by cases l) p l
 let⟨pG,aq⟩:=Lu RO am ap;let l:B≠q:=(aA (O _ _ af) hl).symm;let p:=RO.length_eq;refine⟨B,1,⟨_,bL.of af⟩,eK (K:=bZ) (e:=B) (b:=J.map V.ref) (λm M a=>∃ (f:WF) (S T:Option V),M=[⇑↥r,⇑↥q,S,T]/\a q=⇑(.lst (f.map V.ref))/\bG a f ((L.take m).foldl fP [])/\cF q (aL I B (.lst (J.map V.ref))) a) ⟨[],none,none,1,gF,.nil,cF.refl _ _⟩ (by rintro m M a _ ⟨_,_,_,_,_,_,o⟩;exact bL.of (o _ _ af l)) ?_ ?_⟩
 ·rintro m ar M a hi ⟨f,S,T,rfl,i,g,o⟩;rw[fK]at hi;let⟨c,ea,rfl⟩:=Option.map_eq_some_iff.mp hi;let⟨⟨j,k⟩,ep,l⟩:=ab.get ea
  let ha:j3 a c (j,k):=o _ _ l (λz=>by
   let bu:=l;unfold j3 at bu;rw[z,gF]at bu
   cases bu)
  let step:=BF (f:=fP) ep
  let bl:↑f<sizeLine:=by
   let z:=g.len;let b:=Om (L.take m) [];rw[gm,pR]at b;exact aN ∅
  exists c,Y,dO.of ha,1,E,1,Z
  let ae:fP ((L.take m).foldl fP []) (j,k)=(L.take m).foldl fP []++[(j,k)]->∀ t,a t=none->∃ (c:WF) (l p:Option V),[⇑(V.ref r),⇑↥q,⇑(.int j),⇑(.int k)]=[⇑↥r,⇑↥q,l,p]/\(aL (aL a t (.tup [.int j,.int k])) q (.lst (f.map V.ref++[↥t]))) q=⇑(.lst (c.map V.ref))/\bG (aL (aL a t (.tup [.int j,.int k])) q (.lst (f.map V.ref++[↥t]))) c ((L.take (m+1)).foldl fP [])/\cF q (aL I B (.lst (J.map V.ref))) (aL (aL a t (.tup [.int j,.int k])) q (.lst (f.map V.ref++[↥t]))):=λe t d=>by
   let u:aJ a (aL a t (.tup [.int j,.int k])):=ao d _;let U:t≠q:=(aA i d).symm;refine⟨f++[t],E,1,by rw[af,gP];rfl,?_,λb v W z=>aG q _ _ b v (u _ _ (o b v W z)) z⟩;rw[step,e];refine bG.snoc ((g.same u).keep (u _ _ i) (aG q _ _)) ?_;show aL _ _ _ t=_;rw[aK U,af]
  rcases l6 ((L.take m).foldl fP []) with w|⟨c,G,w⟩
  ·let b:f=[]:=by rw[w]at g;exact List.eq_nil_of_length_eq_zero g.len
   subst b;refine⟨Y,false,.inl ⟨_,bL.of i,1⟩,gp (gp ?_)⟩;exact⟨Y,.inl ⟨1,_,bL.of i⟩,Y,Y,mT,λt d=>⟨q,Z,ao d _ _ _ i,(by show 0<sizeLine;decide),ae (by rw[w];rfl) t d⟩⟩
  ·rw[kj]at w;let ag:=g;rw[w]at ag;let⟨n,x,rfl,hc,X⟩:=ag.split;let y:a q=⇑(.lst (n.map V.ref++[↥x])):=by rw[i,gP];rfl
   refine⟨Y,true,.inl ⟨_,bL.of y,by simp⟩,iF ?_⟩;refine⟨Y,Y,Y,q,Q,V,bL.of y,gE _ _,x,Q,V,dO.of X,Ht,Z,Y,dM (λc2=>?_) (λc2=>?_)⟩
   ·let C:j<=G.2:=of_decide_eq_true c2;refine⟨Y,Y,q,Q,V,bL.of y,gE _ _,x,Q,V,dO.of X,Hs,Y,Y,q,Q,V,bL.of y,gE _ _,x,Q,V,dO.of X,Ht,Y,E,1,mT,λt d=>?_⟩;exists Y,Y,q,E,↑n,V,ao d _ _ _ y,NZ n x;let u:aJ a (aL a t (.tup [.int G.1,.int (if k > G.2 then k else G.2)])):=ao d _;let U:t≠q:=(aA y d).symm
    let es:(n.map V.ref++[V.ref x]).set ↑n ↥t=(n++[t]).map V.ref:=by
     let z:=yV (n.map V.ref) (V.ref x) (V.ref t);rw[cC]at z;rw[z,gP];rfl
    rw[es];refine⟨n++[t],E,1,af,?_,λb v W z=>aG q _ _ b v (u _ _ (o b v W z)) z⟩;rw[step,w,sP _ C];refine bG.snoc ((hc.same u).keep (u _ _ y) (aG q _ _)) ?_;show aL _ _ _ t=_;rw[aK U,af]
   ·let C:¬ j<=G.2:=λz=>c2 (decide_eq_true z);exact⟨Y,.inl ⟨1,_,bL.of i⟩,Y,Y,mT,λt d=>⟨q,Z,ao d _ _ _ i,(by rw[cC];exact bl),ae (by rw[w,sQ _ C]) t d⟩⟩
 ·rintro M a ⟨f,S,T,rfl,i,g,o⟩;rw[cC,ab.len,gU]at g;let c:=Om L [];rw[pR]at c;refine⟨Y,ai q _ a ⟨f,i,g⟩ pG (λar=>by rw[aq,Oj ok]) ∅ (λb v e=>o b v (an _ _ e) (aA e N)) N⟩
def Fc{b:Row}(h:uy b){i j:Nat}{p q:Int × Int}(c:b[i]?=⇑p)(a:b[j]?=⇑q)(k:i<=j):p.2<=q.2:=by
 by_cases d:i=j
 ·subst d;rw[c]at a;cases a;exact Int.le_refl _
 ·let⟨d,e⟩:=List.getElem?_eq_some_iff.mp c;let⟨f,g⟩:=List.getElem?_eq_some_iff.mp a;have:=List.pairwise_iff_getElem.mp h.1 i j d f ∅;rw[e,g]at this;have:=h.2 q (lK a);lia
theorem m7:‹(1,11,["holes","start"],RT)›:=λD=>by
 specialize fm ["holes","start","low","high","middle"] D.Wm.F;let⟨r,b,x,rfl,⟨c,d,m⟩,pG,k⟩:=h;let v:=m.len;exists _,#v[aX 2 az,aX 3 (gg D.T.eV (pv 0)),nG PassesOwn.never (aV jR (pv 2) (pv 3) (bh _)) #v[aX 4 (bx yR (bx cT (pv 2) (pv 3)) az),bO (aV Bg (aP aZ (aP bH (pv 0) (pv 4)) az) (pv 1) (bh _)) #v[aX 3 (pv 4)] #v[aX 2 (bx cT (pv 4) az)]],aM (pv 2)]
 all_goals try dsimp only[aS,aH]
 exists Y,r,Y,.inl (bL.of d);rw[cC,v];refine⟨λn o e=>∃ (lo a:Nat) (u:Option V),o=[⇑↥r,⇑(.int x),⇑(.int lo),⇑(.int a),u]/\e=H/\n=a-lo/\lo<=a/\a<=↑b/\(∀ i p,b[i]?=⇑p->i<lo->p.2<=x)/\(∀ i p,b[i]?=⇑p->a<=i->x<p.2),⟨_,0,↑b,none,V,1,by lia,fH _,λi p _ h=>by lia,λi p d v=>by rw[List.getElem?_eq_none v]at d;cases d⟩,?_⟩;rintro n o e ⟨lo,a,u,rfl,rfl,rfl,n,q,s,t⟩;refine⟨Y,Y,Z,Y,dM (λf=>?_) (λf=>?_)⟩
 ·let G:(lo:Int)<a:=of_decide_eq_true f;refine⟨fun n o=>∃ v,v<a-lo/\∃ (lo a:Nat) (u:Option V),n=[⇑↥r,⇑(.int x),⇑(.int lo),⇑(.int a),u]/\o=e/\v=a-lo/\lo<=a/\a<=↑b/\(∀ i p,b[i]?=⇑p->i<lo->p.2<=x)/\(∀ i p,b[i]?=⇑p->a<=i->x<p.2),fun n o z=>z,?_⟩;let w:((lo:Int)+a) / 2=((lo+a) / 2:Nat):=by lia
  refine⟨Y,Y,Z,Z,⟨by decide,by decide⟩,?_⟩;obtain⟨mid,y⟩:∃ mid,mid=(lo+a) / 2:=⟨Y⟩;let g:b[mid]?=⇑b[mid]:=mS ∅;let B:c[mid]?=⇑c[mid]:=mS ∅;let⟨e,C,I⟩:=m.get B;rw[g]at C;cases C
  let J:om (c.map V.ref) (((lo:Int)+a) / 2)=⇑(.ref c[mid]):=by
   rw[w,← y];exact cP (by rw[fK,B];rfl)
  refine⟨Y,Y,r,Q,V,bL.of d,J,c[mid],Q,V,dO.of I,Ht,Y,Z,Y,dM (λj=>?_) (λj=>?_)⟩
  ·let L:x<b[mid].2:=of_decide_eq_true j;refine⟨Y,mid-lo,by lia,lo,mid,⇑(.int (((lo:Int)+a) / 2)),?_,V,by lia,by lia,s,λi p l F=>?_⟩
   ·rw[y,← w];rfl
   ·have:=Fc pG g l F;lia
  ·let L:¬ x<b[mid].2:=λz=>j (decide_eq_true z);refine⟨Y,Z,a-(mid+1),by lia,mid+1,a,⇑(.int (((lo:Int)+a) / 2)),?_,V,by lia,q,λi p l F=>?_,t⟩
   ·have:((lo:Int)+a) / 2+1=((mid+1:Nat):Int):=by lia
    rw[← this];rfl
   ·have:=Fc pG l g ∅;lia
 ·let G:¬ (lo:Int)<a:=λz=>f (decide_eq_true z);have g:a=lo:=by lia
  subst g;exact⟨Y,k a ⟨q,s,t⟩⟩
open Classical in
def Sm{a:Row}{x:Int}{n:Nat}(h:eB a x n)(d:uy a):_gI.Lv a x=decide (∃ p,a[n]?=⇑p/\p.1<=x):=by
 rw[Bool.eq_iff_iff,iW,decide_eq_true_iff];constructor
 ·rintro⟨p,b,c,l⟩;let⟨i,e⟩:=List.getElem?_of_mem b
  let l:n<=i:=by
   rcases Nat.lt_or_ge i n with z|z
   ·have:=h.2.1 i p e z;lia
   ·exact z
  let⟨j,f⟩:=List.getElem?_eq_some_iff.mp e;let g:a[n]?=⇑a[n]:=mS ∅;exists a[n],g;by_cases k:n=i
  ·subst k;rw[f];exact c
  ·let q:=List.pairwise_iff_getElem.mp d.1 n i ∅ j ∅;have:=d.2 _ (lK g);rw[f]at q;lia
 ·rintro⟨p,b,c⟩;exact⟨p,lK b,c,h.2.2 n p b (fH _)⟩
open Classical in
theorem LI:‹(2,12,["holes","address"],Ot)›:=λD=>by
 specialize fm ["holes","address","hole"] D.ZU.F;let⟨r,a,x,rfl,R,f,k⟩:=h;exists _,#v[aX 2 (aC D.Wm (m7 D) hr #[0,1]),aM (oh (jw jR (pv 2) (gg D.T.eV (pv 0)) (bh _)) (pT (jw gC (aP aZ (aP bH (pv 0) (pv 2)) az) (pv 1) (bh _))))]
 all_goals try dsimp only[aS,aH]
 refine⟨Y,Y,r,a,x,1,R,f,λn m=>?_⟩;rw[Sm m f]at k;let⟨b,g,f⟩:=id R;let i:=f.len;refine⟨Y,Y,r,Y,.inl (bL.of g),Z,Y,dM (λc=>?_) (λc=>?_)⟩
 ·let m:n<↑a:=by
   have:=of_decide_eq_true c;rw[cC,i]at this;lia
  let d:a[n]?=⇑a[n]:=mS m;let j:b[n]?=⇑b[n]:=mS ∅;let⟨m,l,o⟩:=f.get j;rw[d]at l;cases l;exists Y,Y,r,Q,V,bL.of g,cP (by rw[fK,j];rfl),b[n],Q,V,dO.of o,Hs,Y,Z;rw[show decide (∃ p,a[n]?=⇑p/\p.1<=x)=decide (a[n].1<=x) from decide_eq_decide.mpr ⟨λ⟨p,e,z⟩=>by rw[d]at e;cases e;exact z,λz=>⟨_,d,z⟩⟩]at k;exact k
 ·let b:¬ n<↑a:=λz=>c (decide_eq_true (by rw[cC,i];lia));rw[show decide (∃ p,a[n]?=⇑p/\p.1<=x)=false from decide_eq_false λ⟨p,e,_⟩=>by rw[List.getElem?_eq_none ∅]at e;cases e]at k;exact k
theorem C7:‹(2,13,["start","stop","holes"],Wc)›:=λD=>by
 refine fm ["start","stop","holes","told","left","hole"] D.ZV.F λdF A zn s H vs Q E hr _ h=>?_;let⟨r,a,c,b,rfl,R,O,S,X,ae⟩:=h;refine⟨_,#v[aX 3 (bJ ah),aX 4 (pv 0),aX 5 (aC D.Wm (m7 D) hr #[2,0]),nG PassesOwn.never (PW.pt (pS (aV jR (pv 5) (gg D.T.eV (pv 2)) (bh _)) (mW (aV jR (aP aZ (aP bH (pv 2) (pv 5)) az) (pv 1) (bh _))))) #v[aT (dX n8 jt ju bT (pv 3) #[cZ #[4,bU (lU rfl) rfl D.T.zw PyProof.Rows.boot_max #[4,aP aZ (aP bH (pv 2) (pv 5)) az]]]),aX 4 (bU (nI rfl) rfl D.T.E2 PyProof.Rows.boot_min #[aP aZ (aP bH (pv 2) (pv 5)) az,1]),rZ (i:=5) (by assumption) rfl (Or.inl rfl) az MZ],aT (dX n8 jt ju bT (pv 3) #[cZ #[4,1]]),aM (pv 3)],?_⟩
 all_goals try dsimp only[aS,aH]
 refine⟨iy,λq y=>?_⟩;let s0:aJ H (aL H q (.lst [])):=ao y _;refine⟨Y,Y,Y,r,a,c,1,R.same s0,O,λn S=>?_⟩;let⟨d,T,I⟩:=id R;let n1:=I.len;let⟨R,d2⟩:=S.drop;let ag:=S.1;let⟨o1,S,o3⟩:=Ur b (a.drop n) c X R (O.drop n);let O:=Oo b (a.drop n) c;rw[l9]at O
 let ai:bC (lo b c (a.drop n))=iE a (gx (c,b)):=by
  rw[S];refine qt λx e=>(d2 x ?_).symm;have:=(jH.mp e).1;simpa using this
 exists λO R m=>∃ (i:Nat) (l:Int) (e:WF) (f:Row),R=[⇑(.int c),⇑(.int b),⇑↥r,⇑↥q,⇑(.int l),⇑(.int i)]/\m q=⇑(.lst (e.map V.ref))/\bG m e f/\f++lo b l (a.drop i)=lo b c (a.drop n)/\n<=i/\i<=↑a/\O=↑a-i/\aJ H m,⟨_,n,c,[],[],1,af,.nil,1,fH _,ag,1,s0⟩;rintro O R m ⟨i,l,e,f,rfl,j,J,B,ni,il,rfl,o⟩;have O:=J.len;have O:=congrArg List.length B;rw[dh]at O;have L:=o _ _ T;exists Y,Y,r,Y,.inl (bL.of L),Z,Y;rw[cC,n1];refine CQ (p:=(i:Int)<↑a) (q:=(a.getD i (0,0)).1<b) (λpi z=>?_) (λM=>?_) (λM=>?_)
 ·let g:i<↑a:=by lia
  let p:a[i]?=⇑a[i]:=mS g;let t:d[i]?=⇑d[i]:=mS ∅;let⟨pp,u,C⟩:=I.get t;rw[p]at u;cases u;let v:a.getD i (0,0)=a[i]:=by rw[List.getD_eq_getElem?_getD,p];rfl
  rw[v]at z;exact⟨Y,Y,r,Q,V,bL.of L,cP (by rw[fK,t];rfl),d[i],Q,V,dO.of (o _ _ C),Hs,Y,Z,Y,z⟩
 ·let⟨pi,U⟩:=M;let g:i<↑a:=by lia
  let p:a[i]?=⇑a[i]:=mS g;let t:d[i]?=⇑d[i]:=mS ∅;let⟨pp,u,C⟩:=I.get t;rw[p]at u;cases u;let v:a.getD i (0,0)=a[i]:=by rw[List.getD_eq_getElem?_getD,p];rfl
  rw[v]at U;let N:a.drop i=a[i]::a.drop (i+1):=List.drop_eq_getElem_cons g;let W:om (d.map V.ref) (i:Int)=⇑(.ref d[i]):=cP (by rw[fK,t];rfl)
  let ak:f++[(l,if a[i].1 > l then a[i].1 else l)]++lo b (if b<a[i].2 then b else a[i].2) (a.drop (i+1))=lo b c (a.drop n):=by
   rw[← B,N,lo,if_pos U,ko];rfl
  refine⟨fun t p=>∃ u,u<↑a-i/\∃ (i:Nat) (l:Int) (e:WF) (f:Row),t=[⇑(.int c),⇑(.int b),⇑↥r,⇑↥q,⇑(.int l),⇑(.int i)]/\p q=⇑(.lst (e.map V.ref))/\bG p e f/\f++lo b l (a.drop i)=lo b c (a.drop n)/\n<=i/\i<=↑a/\u=↑a-i/\aJ H p,fun t p z=>z,?_⟩;refine⟨Y,.inl ⟨1,_,bL.of j⟩,Y,Y,Y,Y,r,Q,V,bL.of L,W,d[i],Q,V,dO.of (o _ _ C),Hs,E,1,mT,λF w=>⟨q,Z,ao w _ _ _ j,(by rw[cC];exact aN ∅),?_⟩⟩;let⟨G,x,k⟩:=EB (c:=l) (d:=if a[i].1 > l then a[i].1 else l) y o j J w;generalize aL (aL m F (.tup [.int l,.int (if a[i].1 > l then a[i].1 else l)])) q (.lst (e.map V.ref++[↥F]))=c at G x k;exists Y,Y,r,Q,V,bL.of (k _ _ T),W,d[i],Q,V,dO.of (k _ _ C),Ht,Y,E,1;refine⟨Y,Z,↑a-(i+1),by lia,i+1,_,e++[F],Y,G,x,ak,by lia,by lia,1,k⟩
 ·let p:lo b l (a.drop i)=[(l,b)]:=by
   by_cases g:i<↑a
   ·let N:a.drop i=a[i]::a.drop (i+1):=List.drop_eq_getElem_cons g;let v:a.getD i (0,0)=a[i]:=by rw[List.getD_eq_getElem?_getD,mS g];rfl
    rw[N,lo,if_neg (λz=>M ⟨by lia,by rw[v];exact z⟩)]
   ·rw[xm ∅];rfl
  rw[p]at B;refine⟨Y,.inl ⟨1,_,bL.of j⟩,Y,Y,mT,λF w=>⟨q,Z,ao w _ _ _ j,(by rw[cC];exact aN ∅),?_⟩⟩;let⟨G,x,k⟩:=EB (c:=l) (d:=b) y o j J w;rw[B]at x;exact⟨Y,ae q _ _ ⟨_,G,x⟩ o1 ai o3 ∅ k y⟩
theorem zx:‹(3,14,["row","other"],Lw)›:=λD=>by
 specialize fm ["row","other","holes"] D.Wn.F;let⟨W,ai,C,F,rfl,ak,am,GG,wA,UE,UG,an⟩:=h;refine⟨_,#v[aX 2 (aC D.Wl (BZ D) hr #[1]),aM (aC D.Wi (nT D) hr #[vC (N:=["start","stop","piece","holes"]) (kG (c:=cB yu) (f:=["row","other","holes"]) (d:=[none,none,none,some 2]) rfl rfl rfl nofun nofun rfl nofun rfl nofun) rfl (cM (pv 0)) (λ_ _ _ _ _ _=>(qI (n:=2) rfl (bS (bX 0) (bS (bX 1) gB)))) (λ_ _ _ _ _ _=>gQ) (λ_ _ _ _ _ _=>(EJ (aC D.ZV (C7 D) hr #[0,1,3]))) (λ_ _ _ _ _ _=>(bX 2)) (λ_ _ _ _ _ _=>gQ) (λ_ _ _ _ _ _=>(pv 2))])],?_⟩
 all_goals try dsimp only[aS,aH]
 refine⟨Y,ai,F,1,am,wA,UG,λS bz X RS pG ap ai G hS=>?_⟩;let⟨as,h1,p1⟩:=ak.same G;let n1:=p1.len;refine⟨Y,W,1,⟨_,bL.of h1⟩,λa cJ=>qp (K:=bZ) (f:=W) (a:=as.map V.ref) (λi d g=>∃ (I J x:Option V) (c:WF) (L:Row),d=[I,J,x,⇑↥S]/\g a=⇑(.lst (c.map V.ref))/\bG g c L/\Ok L/\bC L=iE F (bC (C.take i))/\↑L<=64*i/\↑L<=i*(↑F+1)/\aJ X g) ⟨none,none,none,[],[],1,af,.nil,(λp l=>by cases l),1,by simp,by simp,ao cJ _⟩ (by rintro i d g _ ⟨_,_,_,_,_,_,_,_,_,_,_,_,e⟩;exact bL.of (e _ _ h1)) ?_ ?_⟩
 ·rintro i aq d g hi ⟨I,J,x,c,L,rfl,r,s,M,t,lL,N,e⟩;rw[fK]at hi;let⟨u,ea,rfl⟩:=Option.map_eq_some_iff.mp hi;let⟨⟨st,en⟩,v,ar⟩:=p1.get ea
  let F:i<↑C:=by
   rcases Nat.lt_or_ge i ↑C with z|z
   ·exact z
   ·rw[List.getElem?_eq_none z]at v;cases v
  refine⟨u,Y,dO.of (e _ _ ar),1,E,1,Z,yes (iF ?_)⟩;refine⟨Y,Y,Y,S,bz,st,en,1,RS.same e,pG,by lia,UE _ (lK v),λq ab w C au av _ i k O=>?_⟩;let⟨f,i,pm⟩:=id C;let ml:=pm.len;let C:=s.len;let h3:=k _ _ r;let C:q≠a:=(aA r O).symm;refine⟨q,1,⟨_,bL.of i⟩,zj (K:=bZ) (j:=q) (o:=a) (t:=pV 2) (tt:=Lc) (u:=QG 2) (b:=f.map V.ref) (λl d b=>∃ R:Option V,d=[⇑(.int st),⇑(.int en),R,⇑↥S]/\b a=⇑(.lst ((c++f.take l).map V.ref))/\bG b (c++f.take l) (L++ab.take l)/\cF a w b/\aJ X b) ?_ ?_ ?_ ?_⟩
  ·exact⟨x,1,(by simpa using h3),(by simpa using s.same k),(λ_ _ T _=>T),e.trans k⟩
  ·rintro l d b _ ⟨_,_,_,_,m,_⟩;exact bL.of (m q _ i C)
  ·rintro l aq d b hl ⟨R,rfl,j,n,m,U⟩;rw[fK]at hl;let⟨y,o,rfl⟩:=Option.map_eq_some_iff.mp hl;let⟨p,aw,ae⟩:=pm.get o
   let i:l<↑f:=by
    rcases Nat.lt_or_ge l ↑f with z|z
    ·exact z
    ·rw[List.getElem?_eq_none z]at o;cases o
   let ag:j3 b y p:=m y _ ae (λz=>by
    let bu:w a=⇑(.tup [.int p.1,.int p.2]):=by rw[← z];exact ae
    rw[h3]at bu
    cases bu)
   let B:cF a b (aL b a (.lst ((c++f.take l).map V.ref++[↥y]))):=aG a _ _;refine Rm (iF ⟨Y,_,j,?_,Y,?_,?_,λu i T C=>B u i (m u i T C) C,bP cJ U B⟩)
   ·rw[cC,dh,gm];exact aN ∅
   ·rw[af,take_snoc o,← ko,gP (l₁:=c++f.take l)];rfl
   ·rw[take_snoc o,take_snoc aw,← ko,← ko]
    exact bG.snoc (n.keep j B) (B y _ ag (λz=>by
     let bu:b a=⇑(.tup [.int p.1,.int p.2]):=by rw[← z];exact ag
     rw[j]at bu
     cases bu))
  ·rintro d b ⟨R,rfl,j,n,m,U⟩;rw[cC,gU]at j n;rw[ml,gU]at n;refine⟨Q,c++f,L++ab,1,j,n,λp l=>(List.mem_append.mp l).elim (M p) (au p),?_,by rw[dh];lia,(by rw[dh,Nat.succ_mul];lia),U⟩;rw[cQ,t,av,take_snoc v,cQ,oB,fC];congr 1;exact qt λx _=>ap x
 ·rintro d g ⟨I,J,x,c,L,rfl,r,s,M,t,lL,N,e⟩;rw[cC,n1,gU]at t;rw[cC,n1]at lL N;refine⟨a,L,1,⟨c,r,s⟩,by lia,λq w a k O=>?_⟩;let b:=iU L;rw[nM L M,t]at a b;exact an q w a (iC b N) (G.trans (e.trans k)) (aU (G.trans e) O)
def Bl(a:Addr)(H:Hp)(x d t:Addr):Prop:=H x=⇑(.ins a d [("stains",↥t)])
class inductive Sn(CB:Addr)
 | mk (x d:Addr) (_:vs=[↥x]) (_:H x=⇑(.ins CB d [])) (_: ∀ (t:Addr) (a:Hp),Bl CB a x d t->bV a t []->cF x H a->H t=none->Q .gc a)
class inductive WN(CB:Addr)
 | mk (x r e t:Addr) (a b:Row) (_:vs=[↥x,↥r]) (_:Bl CB H x e t) (_:bV H t a) (_:bV H r b) (_:↑a+↑b<64) (_:Ok a) (_:Ok b) (_ :
 ∀ (t':Addr) (c:Row) (d:Hp),Bl CB d x e t'->bV d t' c->uy c->(∀ y,In c y↔In a y\/In b y)->↑c<=↑a+↑b->cF x H d->H t'=none->Q .gc d)
class inductive WO(CB:Addr)
 | mk (x r e t:Addr) (a b:Row) (_:vs=[↥x,↥r]) (_:Bl CB H x e t) (_:bV H t a) (_:bV H r b) (_:↑a<=5000) (_:↑b<64) (_:uy a) (_:Ok b) (_ :
 ∀ (t':Addr) (c:Row) (d:Hp),Bl CB d x e t'->bV d t' c->uy c->(∀ y,In c y↔In a y/\¬ In b y)->↑c<=↑a*(↑b+1)->cF x H d->H t'=none->Q .gc d)
class inductive So(CB:Addr)
 | mk (x d t:Addr) (b:Row) (a:Int) (_:vs=[↥x,.int a]) (_:Bl CB H x d t) (_:bV H t b) (_:uy b) (_:Q (.bl (Lv b a)) H)
theorem uB:‹(1,15,["self"],(Sn d9))›:=λD=>by
 specialize fm ["self"] D.ZW.F;let⟨x,d,rfl,b,k⟩:=h;exists _,#v[iI (pv 0) (bJ ah) rfl]
 all_goals try dsimp only[aS,aH]
 refine⟨iy,λt a=>?_⟩;let c:t≠x:=(aA b a).symm;refine⟨Y,x,d9,d,Y,ao a _ _ _ b,D.j6.cl,D.lP,by decide,?_⟩;exact k t _ af ⟨[],by rw[aK c,af];rfl,.nil⟩ (λb o e n=>by rw[aK n];exact ao a _ b o e) a
theorem AK:‹(3,16,["self","row"],(WN d9))›:=λD=>by
 specialize fm ["self","row"] D.ZX.F;let⟨x,r,d,t,i,j,rfl,c,R,O,k,l,m,n⟩:=h;let⟨b,a,e⟩:=id R;let⟨f,o,g⟩:=id O;let p:=e.len;let p:=g.len;exists _,#v[iI (pv 0) (aC D.Wl (BZ D) hr #[bx ja (cY (pv 0) rfl) (pv 1)]) rfl]
 all_goals try dsimp only[aS,aH]
 refine⟨Y,x,d9,d,_,↥t,1,c,D.j6.cl,D.lP,1,Y,t,r,Z,a,o,(by rw[cC,cC];exact gn (aN ∅)),λp o=>?_⟩;let a:aJ H (aL H p (.lst (b.map V.ref++f.map V.ref))):=ao o _;refine⟨p,i++j,1,⟨b++f,by rw[af,gP],(e.same a).append (g.same a)⟩,(by rw[dh];exact k),(λq b=>(List.mem_append.mp b).elim (l q) (m q)),λq M e g i j k f b=>?_⟩;let e:=a.trans f;let f:=e _ _ c;refine⟨Y,x,d9,d,Y,f,D.j6.cl,D.lP,(by show 1<1000;decide),?_⟩;exact n q M _ af (g.obj f (aG x _ _)) i (λy=>(j y).trans nR) (by rw[← dh];exact k) (λc o d n=>aG x _ _ c o (e c o d) n) (aU a b)
theorem AL:‹(4,17,["self","row"],(WO d9))›:=λD=>by
 specialize fm ["self","row"] D.ZY.F;let⟨x,r,d,t,e,a,rfl,b,R,O,f,g,c,i,k⟩:=h;exists _,#v[iI (pv 0) (aC D.Wn (zx D) hr #[cY (pv 0) rfl,1]) rfl]
 all_goals try dsimp only[aS,aH]
 refine⟨Y,x,d9,d,_,↥t,1,b,D.j6.cl,D.lP,1,Y,t,r,e,a,1,R,O,f,g,c.ok,i,λq f g i e j=>?_⟩;let f:=e _ _ b;refine⟨Y,x,d9,d,Y,f,D.j6.cl,D.lP,(by show 1<1000;decide),?_⟩;refine k q _ _ af (g.obj f (aG x _ _)) (Ol (c.rise.filter _)) (λy=>?_) i (λb o c n=>aG x _ _ b o (e b o c) n) j;rw[EV,← jq];unfold iE;rw[List.mem_filter];refine and_congr_right λ_=>?_;rw[← iW]
 cases Lv a y <;> simp
theorem zy:‹(3,18,["self","address"],(So d9))›:=λD=>by
 specialize fm ["self","address"] D.ZZ.F;let⟨x,d,t,a,b,rfl,c,R,e,k⟩:=h;exists _,#v[aM (aC D.ZU (LI D) hr #[cY (pv 0) rfl,1])]
 all_goals try dsimp only[aS,aH]
 exact⟨Y,x,d9,d,_,↥t,1,c,D.j6.cl,D.lP,1,Y,t,a,b,1,R,e,k⟩
theorem LJ(a:List aY):↑(fO a)<=↑a:=List.length_filterMap_le _ a
class inductive WQ
 | mk (r:Addr) (a:List aY) (_:vs=[↥r]) (_:b8 H ↥r a) (_:↑a<=100000) (_ :
 ∀ (o:Addr) (b:Hp),b o=⇑(.lst ((fO a).map V.int))->aJ H b->H o=none->Q ↥o b)
theorem zA:‹(1,19,["items"],WQ)›:=λD=>by
 specialize fm ["items"] D.Wq.F;let⟨r,a,rfl,⟨t,vs,p,l,m⟩,v,k⟩:=h;cases p;refine⟨_,#v[aM (gS (N:=["item"]) (kG (c:=cB yv) (f:=["items"]) (d:=[none]) rfl rfl rfl nofun nofun rfl nofun rfl nofun) rfl (cM (pv 0)) (λ_ _ _ _ _ _=>(bX 0)) (λ_ _ _ _ _ _=>xQ (aV eE (aP JR (pv 0) az) bw (bh _))) (λ_ _ _ _ _ _=>(aP JR (pv 0) az)))],?_⟩
 all_goals try dsimp only[aS,aH]
 refine⟨Y,r,1,⟨_,bL.of l⟩,λe f=>gK (K:=bZ) (h:=r) (a:=vs) (λi d b=>∃ u:Option V,d=[u]/\b e=⇑(.lst ((fO (a.take i)).map V.int))/\aJ H b) ⟨none,1,af,ao f _⟩ (by rintro i d b _ ⟨_,_,_,s0⟩;exact bL.of (s0 _ _ l)) ?_ ?_⟩
 ·rintro i x d b q ⟨u,rfl,c,s0⟩;let⟨o,s,g,rfl,j⟩:=m.get q;let step:fO (a.take (i+1))=fO (a.take i)++fO [o]:=by rw[take_snoc s,gM]
  let l:↑(fO (a.take i))<=100000:=by
   let z:=LJ (a.take i);rw[gm]at z;lia
  cases o with
  | win n =>
   refine⟨Y,g,Q,V,dO.of (s0 _ _ j),V,Y,dM (λ_=>?_) (λz=>absurd (by decide) z)⟩;refine⟨Y,g,Q,V,dO.of (s0 _ _ j),1,_,c,(by rw[cC];exact aN ∅),Y,?_,bP f s0 (aG e _ _)⟩;rw[af,step,gP];rfl
  | aF p q =>
   refine⟨Y,g,Q,V,dO.of (s0 _ _ j),V,Y,dM (λz=>absurd z (by decide)) (λ_=>?_)⟩;refine⟨Y,?_,s0⟩;rw[c,step];show _=⇑(HO.lst ((fO (a.take i)++[]).map V.int));rw[gV]
 ·rintro d b ⟨u,rfl,c,s0⟩;rw[m.len,gU]at c;exact k e b c s0 f
structure LK(rows:dB)(ks:Wp):Prop where
 D5:∀ x∈ks,0<=x/\x<↑rows
 dn:∀ (i:Nat) (x:Int),ks[i]?=⇑x->∀ y,jS rows x y->y∈ks.take i
class inductive Sq
 | mk (r L:Addr) (a:dB) (b:Wp) (_:vs=[↥r,↥L]) (_:iu H r (a.map aI)) (_:H L=⇑(.lst (b.map V.int))) (_:↑b<=1000) (_:↑a<=1000) (_:(∀ e∈a,↑e<=1000)) (_:gT a) (_:CO a) (_:(∀ s∈b,0<=s/\s<↑a)) (_ :
 ∀ (c:Wp) (o:Addr) (d:Hp),d o=⇑(.lst (c.map V.int))->aJ H d->LK a c->(∀ s∈b,s∈c)->↑c<=1000->H o=none->Q ↥o d)
def LK.snoc{c:dB}{a:Wp}{x:Int}(h:LK c a)(j:0<=x)(k:x<↑c)(e:∀ y,jS c x y->y∈a):LK c (a++[x]):=by
 refine⟨λy f=>?_,λi y b z d=>?_⟩
 ·rcases List.mem_append.mp f with q|q
  ·exact h.D5 y q
  ·have:y=x:=by simpa using q
   lia
 ·by_cases f:i<↑a
  ·rw[List.getElem?_append_left f]at b;rw[List.take_append_of_le_length ∅];exact h.dn i y b z d
  ·let g:i=↑a:=by
    rcases Nat.lt_or_ge i ↑(a++[x]) with q|q
    ·rw[dh,nC]at q;lia
    ·rw[List.getElem?_eq_none q]at b;cases b
   subst g;rw[List.getElem?_append_right (fH _),Nat.sub_self]at b;cases b;rw[List.take_append_of_le_length (fH _),gU];exact e z d
def B3{a:List (fR × V)}{b:Wp}(h:a.map (·.1)=b.map Sum.inl)(x:Int):seen a x↔x∈b:=by
 unfold seen;rw[← mE,List.any_eq_true];constructor
 ·rintro⟨p,c,e⟩;let d:p.1=Sum.inl x:=of_decide_eq_true e;have:p.1∈b.map (Sum.inl:Int->fR):=by rw[← h];exact List.mem_map_of_mem c
  rw[d,List.mem_map]at this;let⟨y,d,f⟩:=this;rw[Sum.inl.inj f]at d;exact d
 ·intro d;have:(Sum.inl x:fR)∈a.map (·.1):=by rw[h];exact List.mem_map_of_mem d
  let⟨p,c,e⟩:=List.mem_map.mp this;exact⟨p,c,decide_eq_true e⟩
structure fA(rows:dB)(rk:Int->Nat)(H:Hp)(W S:Addr)(ss:Wp)(H2:Hp)(bs ps ks:Wp)(kvs:List (fR × V)):Prop where
 hW:H2 W=⇑(.lst ((bs++ps).map V.int))
 hS:H2 S=⇑(.dK kvs)
 sm:aJ H H2
 ky:kvs.map (·.1)=ks.map Sum.inl
 tp:LK rows ks
 rg:∀ x∈bs++ps,0<=x/\x<↑rows
 ns:∀ x∈ps,¬ seen kvs x
 pw:ps.Pairwise λa b=>rk b<rk a
 rb:∀ (i:Nat) (x:Int),ps[i]?=⇑x->rk x+i<=40
 st:∀ s∈ss,s∈bs\/s∈ks
 kl:↑kvs+nj ↑rows kvs<=↑rows
 bl:↑bs<=1000
def B4{a:List (fR × V)}{k:fR}(v:V)(h:(cI a k).isSome=true):(fk a k v).map (·.1)=a.map (·.1):=by
 unfold fk;rw[if_pos (by rw[mE];exact h),List.map_map];refine List.map_congr_left λp _=>?_;show (if p.1=k then (p.1,v) else p).1=p.1
 split <;> rfl
def HX{c:Int->Nat}{a:Wp}(b:∀ (i:Nat) (x:Int),a[i]?=⇑x->c x+i<=40):↑a<=41:=by
 rcases l6 a with rfl|⟨d,n,rfl⟩
 ·simp
 ·rw[kj]at b ⊢;have:=b ↑d n (by rw[List.getElem?_append_right (fH _),Nat.sub_self];rfl);rw[dh,nC];lia
structure Top(rk:Int->Nat)(ss bs ps ks:Wp)(kvs:List (fR × V))(AM uX:Wp)(n:Int):Prop where
 eq:bs++ps=AM++uX++[n]
 ns:∀ x∈uX,¬ seen kvs x/\x≠n
 pw:uX.Pairwise λa b=>rk b<rk a
 rb:∀ (i:Nat) (x:Int),uX[i]?=⇑x->rk x+i<=40
 st:∀ s∈ss,s∈AM\/s=n\/s∈ks
 old:seen kvs n->AM.length+50-↑uX<↑bs+50-↑ps
 le:AM.length+50-↑uX<=↑bs+51-↑ps
 bl:AM.length<=↑bs
 up:∀ y:Int,rk y<=40->rk y<rk n->(ps++[y]).Pairwise (λa b=>rk b<rk a)/\∀ (i:Nat) (x:Int),(ps++[y])[i]?=⇑x->rk x+i<=40
def fA.top{u:dB}{c:Int->Nat}{H:Hp}{W v:Addr}{m:Wp}{A:Hp}{d f o:Wp}{p:List (fR × V)}(B:fA u c H W v m A d f o p):d++f=[]\/∃ j e n,Top c m d f o p j e n:=by
 let r:∀ (b:Wp) (y:Int),(∀ (i:Nat) (x:Int),b[i]?=⇑x->c x+i<=40)->c y+↑b<=40->∀ (i:Nat) (x:Int),(b++[y])[i]?=⇑x->c x+i<=40:=by
  intro b y g h i x a;rcases Nat.lt_or_ge i ↑b with q|q
  ·rw[List.getElem?_append_left q]at a;exact g i x a
  ·let k:i=↑b:=by
    rcases Nat.lt_or_ge i ↑(b++[y]) with w|w
    ·rw[dh,nC]at w;lia
    ·rw[List.getElem?_eq_none w]at a;cases a
   subst k;rw[List.getElem?_append_right (fH _),Nat.sub_self]at a;cases a;exact h
 rcases l6 f with rfl|⟨e,n,rfl⟩
 ·rcases l6 d with rfl|⟨j,n,rfl⟩
  ·exact .inl rfl
  ·rw[kj]at B ⊢;refine .inr ⟨j,[],n,by simp,by simp,by simp,by simp,λs k=>?_,λ_=>?_,?_,?_,λy g h=>⟨by simp,r [] y (by simp) (by simpa using g)⟩⟩
   ·rcases B.st s k with z|z
    ·rcases List.mem_append.mp z with z|z
     ·exact .inl z
     ·exact .inr (.inl (by simpa using z))
    ·exact .inr (.inr z)
   ·rw[dh,nC];simp only[pR];lia
   ·rw[dh,nC];simp only[pR];lia
   ·rw[dh,nC];lia
 ·rw[kj]at B ⊢;let l:=List.pairwise_append.mp B.pw;let b:=B.rb ↑e n (by rw[List.getElem?_append_right (fH _),Nat.sub_self];rfl);refine .inr ⟨d,e,n,by rw[ko],λx a=>⟨B.ns x (n9 _ a),λC=>?_⟩,l.1,λi x a=>?_,λs k=>(B.st s k).elim .inl λz=>.inr (.inr z),λz=>absurd z (B.ns n (by simp)),?_,fH _,λy g h=>⟨?_,r _ y B.rb ?_⟩⟩
  ·subst C;exact Nat.lt_irrefl _ (l.2.2 x a x (by simp))
  ·refine B.rb i x ?_;rw[List.getElem?_append_left]
   ·exact a
   ·rcases Nat.lt_or_ge i ↑e with q|q
    ·exact q
    ·rw[List.getElem?_eq_none q]at a;cases a
  ·rw[dh,nC];lia
  ·rw[List.pairwise_append];refine⟨B.pw,by simp,λt D a b=>?_⟩;have:a=y:=by simpa using b
   subst this;rcases List.mem_append.mp D with q|q
   ·have:=l.2.2 t q n (by simp);lia
   ·have:t=n:=by simpa using q
    subst this;exact h
  ·rw[dh,nC];lia
def UH(a:dB)(f:Int->Nat)(H:Hp)(r L W b:Addr)(g:Wp)(m:Nat)(h:_L2.St)(i:Hp):Prop:=∃ (c d j:Wp) (e:List (fR × V)) (u v:Option V),h=[⇑↥r,⇑↥L,⇑↥b,⇑↥W,u,v]/\fA a f H W b g i c d j e/\m=100*nj ↑a e+(↑c+50-↑d)
theorem Fd:‹(2,20,["rows","sheets"],Sq)›:=λD=>by
 specialize fm ["rows","sheets","told","waiting","number","missing"] D.Wr.F;let⟨N,L,c,ss,rfl,hR,hL,aq,eG,ar,oW,⟨rk,as,xB⟩,au,k⟩:=h;let hu:=gR hr;refine⟨_,#v[aX 2 mF,aX 3 (fZ ie rfl D.T.jI tM #[1]),nG PassesOwn.never (jd (pv 3) (λ_=>rfl)) #v[aX 4 (aP bH (pv 3) (ig fF az)),RD (N:=["other","told"]) (l:=5) (kG (c:=cB Hh) (f:=["rows","sheets","told","waiting","number","missing"]) (d:=[none,some 2]) rfl rfl rfl nofun nofun rfl nofun rfl nofun) rfl (by assumption) rfl rfl (cM (aC D.Wq (zA D) hr #[aP bH (pv 0) (pv 4)])) (λ_ _ _ _ _ _=>(bX 0)) (λ_ _ _ _ _ _=>xQ (Cw (BK hu (pv 0) (pv 1)))) (λ_ _ _ _ _ _=>(pv 0)),bO (jd (pv 5) (λ_=>rfl)) #v[aT (dX n8 jt ju bT (pv 3) #[aP bH (pv 5) az])] #v[oA hu (pv 2) (pv 4) nF rfl,aT (Nk n8 PySem.F.slot_list_pop PySem.F.type_list_pop Np (pv 3))]],aM (fZ (HC rfl) rfl D.T.jI tM #[2])],?_⟩
 all_goals try dsimp only[aS,aH]
 intro S O;let R:aJ H (aL H S (.dK [])):=ao O _;refine⟨Y,L,Y,.inl (bL.of (R _ _ hL)),λW F=>?_⟩;let s2:=R.trans (ao F (.lst (ss.map V.int)))
 let T:H W=none:=by
  cases g:H W with
  | none=>rfl
  | some u=>exact absurd ((R _ _ g).symm.trans F) (by simp)
 let G:W≠S:=(aA af F).symm;refine⟨UH c rk H N L W S ss,⟨_,ss,[],[],[],none,none,1,⟨(by rw[af,gV]),ao F _ _ _ af,s2,1,⟨(λx d=>by cases d),λi x I=>by simp at I⟩,(λx d=>au x (by simpa using d)),by simp,by simp,by simp,(λs o=>.inl o),?_,aq⟩,1⟩,?_⟩
 ·have:=zm ↑c (λi=>(cI ([]:List (fR × V)) (Sum.inl (i:Int))).isNone);show 0+cnt ↑c _<=_;lia
 rintro aB v H2 ⟨w,C,m,a,J,aO,rfl,B,rfl⟩;exists Y,!((w++C).map V.int).isEmpty,.inl ⟨_,bL.of B.hW,1⟩;rcases B.top with j|⟨e,f,n,t⟩
 ·let d:(!((w++C).map V.int).isEmpty)=false:=by rw[j];rfl
  rw[d];refine gp ?_
  let q:a.map (λp=>kV p.1)=m.map V.int:=by
   let z:a.map (λp=>kV p.1)=(a.map (·.1)).map kV:=by rw[List.map_map];rfl
   rw[z,B.ky,List.map_map];rfl
  let d:↑m=↑a:=by
   let z:=congrArg List.length B.ky;rw[cC,cC]at z;exact z.symm
  let U:=B.kl;refine⟨Y,S,a,1,B.hS,λl b=>?_⟩;refine k m l _ (by rw[af,q]) (B.sm.trans (ao b _)) B.tp (λs o=>(B.st s o).elim (λz=>?_) id) ∅ ?_
  ·rw[(List.append_eq_nil_iff.mp j).1]at z;cases z
  cases g:H l with
  | none=>rfl
  | some u=>exact absurd ((B.sm _ _ g).symm.trans b) (by simp)
 let X:=B.hW;rw[t.eq]at X;rw[t.eq];refine dM (λ_=>?_) (λz=>absurd (by simp) z);refine⟨fun F R=>∃ m',m'<100*nj ↑c a+(↑w+50-↑C)/\UH c rk H N L W S ss m' F R,fun F R z=>z,?_⟩;let an:om ((e++f++[n]).map V.int) (-1)=⇑(.int n):=by rw[gP];exact gE _ _
 let⟨n0,n1⟩:=B.rg n (by rw[t.eq];simp);let F:=t.le;let F:=t.bl;let F:=HX B.rb;let F:=HX t.rb;let av:=B.bl;obtain⟨b,M⟩:∃ b,c[n.toNat]?=⇑b:=⟨_,mS ∅⟩;let F:=ar b (lK M);let⟨xC,JZ,F⟩:=hR.same B.sm;let⟨R,C8,hI⟩:=F.get' (i:=n.toNat) (b:=aI b) (by rw[fK,M];rfl);let⟨ai,Qo,rfl,F,R⟩:=id hI;let R:=qJ b []
 let F:om xC n=⇑↥ai:=by
  let z:=cP C8;rw[show ((n.toNat:Nat):Int)=n by lia]at z;exact z
 exists Y,Y,W,Q,V,bL.of X,an;refine⟨Y,Y,N,Q,V,bL.of JZ,F,ai,aI b,1,hI,?_,λz N F s4 nz=>?_⟩
 ·show ↑(b.foldl bK [])<=_;simp only[pR]at R;lia
 rw[iV]at F;let R:↑(eU b)<=↑b:=List.length_filterMap_le _ b;let ak:=s4 _ _ B.hS;let aw:=s4 _ _ X;refine⟨z,1,⟨_,bL.of F⟩,λab cJ=>gK (K:=bZ) (h:=z) (a:=(eU b).map V.int) (λi v r=>∃ J:Option V,v=[J,⇑↥S]/\r ab=⇑(.lst ((((eU b).take i).filter (λy=>(cI a (Sum.inl y)).isNone)).map V.int))/\aJ N r) ⟨none,1,af,ao cJ _⟩ (by rintro i v r _ ⟨_,_,_,l⟩;exact bL.of (l _ _ F)) ?_ ?_⟩
 ·rintro i x v r I ⟨J,rfl,p,l⟩;rw[fK]at I;let⟨y,o,rfl⟩:=Option.map_eq_some_iff.mp I;let d:=take_snoc o
  let o:↑(((eU b).take i).filter (λy=>(cI a (Sum.inl y)).isNone))<=1000:=by
   let z:=List.length_filter_le (λy=>(cI a (Sum.inl y)).isNone) ((eU b).take i);rw[gm]at z;lia
  exists Y,Y,S,Y,gW.k (k:=Sum.inl y) (l _ _ ak),Y
  cases g:cI a (Sum.inl y) with
  | none =>
   refine iF ⟨Y,_,p,(by rw[cC];exact aN ∅),Y,?_,bP cJ l (aG ab _ _)⟩;rw[af,d,List.filter_append,List.filter_cons_of_pos (p:=λy=>(cI a (Sum.inl y)).isNone) (by rw[g];rfl),gP];rfl
  | some u =>
   refine gp ⟨Y,?_,l⟩;rw[d,List.filter_append,List.filter_cons_of_neg (p:=λy=>(cI a (Sum.inl y)).isNone) (by rw[g];exact lT),List.filter_nil,gV];exact p
 rintro v r ⟨J,rfl,p,l⟩;rw[cC,gU]at p;let am:=l _ _ ak;let ae:=l _ _ aw;let ag:=B.sm.trans (s4.trans l);let U:=B.kl;exists Y,_,.inl ⟨_,bL.of p,1⟩
 cases em:(eU b).filter (λy=>(cI a (Sum.inl y)).isNone) with
 | nil =>
  refine gp ?_
  let ax:∀ y,jS c n y->y∈m:=by
   rintro y ⟨_,l,d,g⟩;rw[M]at d;cases d;rw[← B3 B.ky];let z:=List.filter_eq_nil_iff.mp em y g;unfold seen
   cases q:cI a (Sum.inl y) with
   | none=>rw[q]at z;exact absurd rfl z
   | some u=>rfl
  refine⟨Y,Y,S,Y,zf.k (k:=Sum.inl n) am (aN ∅),?_⟩;let l:(aL r S (.dK (fk a (Sum.inl n) (.bl true)))) W=⇑(.lst ((e++f++[n]).map V.int)):=by rw[aK G];exact ae
  refine⟨Y,.inl ⟨1,_,bL.of l⟩,W,_,.int n,V,l,(by simp),?_⟩;let l:((e++f++[n]).map V.int).dropLast=(e++f).map V.int:=by rw[gP (l₁:=e++f),List.map_singleton,List.dropLast_concat]
  rw[l];let ap:∀ x∈e++f,0<=x/\x<↑c:=λx d=>B.rg x (by rw[t.eq];exact n9 _ d)
  cases j:cI a (Sum.inl n) with
  | none =>
   let l:=ER (n:=↑c) (.bl true) n0 n1 j;refine⟨100*nj ↑c (fk a (Sum.inl n) (.bl true))+(e.length+50-↑f),by lia,e,f,m++[n],fk a (Sum.inl n) (.bl true),E,1,⟨af,(by rw[aK G.symm,af]),bP T (bP O ag (aG S _ _)) (aG W _ _),?_,B.tp.snoc n0 n1 ax,ap,λx d=>?_,t.pw,t.rb,λs o=>?_,?_,by lia⟩,1⟩
   ·rw[zc _ j,gP,B.ky,gP];rfl
   ·intro q;rcases (EO _).mp q with g|g
    ·exact (t.ns x d).2 g
    ·exact (t.ns x d).1 g
   ·rcases t.st s o with q|q|q
    ·exact .inl q
    ·exact .inr (by rw[q];simp)
    ·exact .inr (n9 _ q)
   ·rw[zc _ j,dh,nC]at *;lia
  | some u =>
   let sn:seen a n:=by unfold seen;rw[j];rfl
   let l:=t.old sn
   let sp:∀ x,seen (fk a (Sum.inl n) (.bl true)) x↔seen a x:=λx=>by
    rw[EO];exact⟨λz=>z.elim (λg=>by rw[g];exact sn) id,.inr⟩
   let ms:nj ↑c (fk a (Sum.inl n) (.bl true))=nj ↑c a:=by
    refine Ob _ λi _=>?_;have z:=sp (i:Int);unfold seen at z
    cases o:cI (fk a (Sum.inl n) (.bl true)) (Sum.inl (i:Int)) with
    | none =>
     cases g:cI a (Sum.inl (i:Int)) with
     | none=>rfl
     | some q=>rw[o,g]at z;exact absurd (z.mpr rfl) lT
    | some l =>
     cases g:cI a (Sum.inl (i:Int)) with
     | none=>rw[o,g]at z;exact absurd (z.mp rfl) lT
     | some q=>rfl
   let g:n∈m:=(B3 B.ky n).mp sn;refine⟨100*nj ↑c (fk a (Sum.inl n) (.bl true))+(e.length+50-↑f),by rw[ms];lia,e,f,m,fk a (Sum.inl n) (.bl true),E,1,⟨af,(by rw[aK G.symm,af]),bP T (bP O ag (aG S _ _)) (aG W _ _),?_,B.tp,ap,λx d q=>(t.ns x d).1 ((sp x).mp q),t.pw,t.rb,λs o=>?_,?_,by lia⟩,1⟩
   ·rw[B4 _ (by rw[j];rfl),B.ky]
   ·rcases t.st s o with q|q|q
    ·exact .inl q
    ·exact .inr (by rw[q];exact g)
    ·exact .inr q
   ·let z:=congrArg List.length (B4 (a:=a) (k:=Sum.inl n) (.bl true) (by rw[j];rfl));rw[cC,cC]at z;rw[z,ms];exact U
 | cons y j =>
  refine iF ?_;rw[em]at p;let i:y∈(eU b).filter (λy=>(cI a (Sum.inl y)).isNone):=by rw[em];simp
  let⟨l,g⟩:=List.mem_filter.mp i;let i:jS c n y:=⟨n0,b,M,l⟩;let⟨y0,y1⟩:=oW.DZ i;let⟨ap,o⟩:=t.up y (as y) (xB n y i);let wl:=congrArg List.length t.eq;rw[dh]at wl;refine⟨Y,.inl ⟨1,_,bL.of ae⟩,Y,ab,Q,V,bL.of p,cP (a:=V.int y::j.map V.int) (j:=0) rfl,W,Z,ae,(by rw[cC,← wl];exact aN ∅),?_⟩;let b:=HX o;rw[dh,nC]at b;refine⟨100*nj ↑c a+(↑w+50-↑(C++[y])),?_,w,C++[y],m,a,E,1,⟨(by rw[af,← ko,t.eq,gP (l₁:=e++f++[n])];rfl),(by rw[aK G.symm];exact am),bP T ag (aG W _ _),B.ky,B.tp,λx d=>?_,λx d=>?_,ap,o,B.st,U,av⟩,1⟩
  ·rw[dh,nC];lia
  ·rw[← ko]at d;rcases List.mem_append.mp d with q|q
   ·exact B.rg x q
   ·have:x=y:=by simpa using q
    subst this;exact⟨y0,y1⟩
  ·rcases List.mem_append.mp d with q|q
   ·exact B.ns x q
   ·have:x=y:=by simpa using q
    subst this;intro q;unfold seen at q
    cases bu:cI a (Sum.inl x) with
    | none=>rw[bu]at q;cases q
    | some u=>rw[bu]at g;cases g
structure j0(rows:dB)(H:Hp)(W S:Addr)(s:Int)(H2:Hp)(vs:List V)(wl:dB)(kvs:List (fR × V)):Prop where
 hW:H2 W=⇑(.lst vs)
 hl:cG (gf (λa=>a=W\/a=S) H2) vs wl
 hS:H2 S=⇑(.dK kvs)
 sm:aJ H H2
 wk:∀ w∈wl,↑w<=↑kvs+1/\∃ e,w.getLast?=⇑e/\0<=e/\e<↑rows/\(e=s\/Reach (jS rows) s e)
 kl:↑kvs+nj ↑rows kvs<=↑rows
class inductive UJ
 | mk (r:Addr) (a:dB) (s g:Int) (_:vs=[↥r,.int s,.int g]) (_:iu H r (a.map aI)) (_:↑a<=1000) (_:(∀ c∈a,↑c<=1000)) (_:gT a) (_:0<=s) (_:s<↑a) (_:¬ Reach (jS a) s g) (_:∀ b,aJ H b->Q .gc b)
def eD(n:Nat)(W a:Addr):_L2.St->Hp->Nat:=λ_ H=>match H W,H a with
 | some (.lst b),some (.dK c)=>2*nj n c+↑b
 | _,_=>0
def OJ{n:Nat}{W a:Addr}{d:_L2.St}{H:Hp}{b:List V}{c:List (fR × V)}(e:H W=⇑(.lst b))(f:H a=⇑(.dK c)):eD n W a d H=2*nj n c+↑b:=by
 unfold eD;rw[e,f]
def UK(a:dB)(H:Hp)(r W b:Addr)(s g:Int)(e:_L2.St)(f:Hp):Prop:=∃ (c:List V) (h:dB) (d:List (fR × V)) (u v:Option V),e=[⇑↥r,⇑(.int s),⇑(.int g),⇑↥W,⇑↥b,u,v]/\j0 a H W b s f c h d/\↑c+2*nj ↑a d<=2*↑a+1
theorem zB:‹(2,21,["rows","start","goal"],UJ)›:=λD=>by
 specialize fm ["rows","start","goal","ways","seen","way","number"] D.Z0.F;let⟨x,c,s,C,rfl,hR,eG,ar,oW,h0,h1,nr,kN⟩:=h;let U:=gR hr;refine⟨_,#v[aX 3 (bJ #[bJ #[1]]),aX 4 mF,nG PassesOwn.never (jd (pv 3) (λ_=>rfl)) #v[aX 5 (dX n8 PySem.F.slot_list_pop PySem.F.type_list_pop Nq (pv 3) #[az]),eX PassesOwn.never rfl (cM (aC D.Wq (zA D) hr #[aP bH (pv 0) (aP bH (pv 5) (ig fF az))])) (bX 6) #v[bO (aV eE (pv 6) (pv 2) (bh _)) #v[aM (bx ja (pv 5) (bJ #[2]))] bg,bO (Cw (BK U (pv 6) (pv 4))) #v[oA U (pv 4) (pv 6) nF rfl,aT (dX n8 jt ju bT (pv 3) #[bx ja (pv 5) (bJ #[6])])] bg]],aM Vg],?_⟩
 all_goals try dsimp only[aS,aH]
 refine⟨Y,kH,λp U=>⟨kH,λW u=>?_⟩⟩;intro S r;let X:aJ H (aL H p (.lst [.int s])):=ao U _;let s2:=X.trans (ao u (.lst [↥p]));let s3:=s2.trans (ao r (.dK []))
 let Ss:H W=none:=by
  cases e:H W with
  | none=>rfl
  | some o=>exact absurd ((X _ _ e).symm.trans u) (by simp)
 let as:H S=none:=by
  cases e:H S with
  | none=>rfl
  | some o=>exact absurd ((s2 _ _ e).symm.trans r) (by simp)
 let J:W≠S:=aA af r;let U:p≠W:=aA af u;let X:p≠S:=aA (ao u _ _ _ af) r;exists λab m k=>ab=eD ↑c W S m k/\UK c H x W S s C m k,⟨Y,?_⟩
 ·let b:=zm ↑c (λF=>(cI ([]:List (fR × V)) (Sum.inl (F:Int))).isNone);refine⟨[↥p],[[s]],[],none,none,1,⟨ao r _ _ _ af,.cons ⟨p,1,(λz=>z.elim U X),ao r _ _ _ (ao u _ _ _ af)⟩ .nil,af,s3,?_,?_⟩,?_⟩
  ·intro bu a;have:bu=[s]:=by simpa using a
   subst this;exact⟨by simp,s,1,h0,h1,.inl rfl⟩
  ·show 0+nj ↑c []<=↑c;unfold nj;lia
  ·show 1+2*nj ↑c []<=_;unfold nj;lia
 ·rintro ab m k ⟨rfl,vs,wl,w,a7,v,rfl,B,ae⟩;rw[OJ B.hW B.hS];exists Y,!vs.isEmpty,.inl ⟨vs,bL.of B.hW,1⟩
  cases vs with
  | nil =>
   exact gp (kN k B.sm)
  | cons u i =>
   refine iF ⟨fun p r=>UK c H x W S s C p r/\eD ↑c W S p r<2*nj ↑c w+↑(u::i),fun p r ⟨p,r⟩=>⟨_,r,1,p⟩,?_⟩;let⟨ag,wA,Wa,au,ai,av⟩:=id B
   cases wA with
   | @cons _ w0 _ b ak f =>
   let⟨n,rfl,aw,ax⟩:=id ak;let⟨r,e,p,e0,u,aB⟩:=ai w0 (by simp)
   let aO:∃ j,w0=j++[e]:=by
    rw[List.getLast?_eq_some_iff]at p;exact p
   let⟨j,rfl⟩:=aO;obtain⟨d,L⟩:∃ d,c[e.toNat]?=⇑d:=⟨_,mS ∅⟩;let p:d∈c:=lK L;let r:=ar d p;exists Y,.inl ⟨1,_,bL.of ag⟩,W,_,0,0,↥n,V,ag,by decide,by decide,(by simp[seqIndex?]),1;let ee:(V.ref n::i).eraseIdx 0=i:=rfl;rw[ee];let am:∀ {v:V} {ns:Wp},gf (λa=>a=W\/a=S) k v ns->gf (λa=>a=W\/a=S) (aL k W (.lst i)) v ns:=λh=>h.at _ (.inl rfl);have OL:aJ H (aL k W (.lst i)):=bP Ss au (aG W _ _);let⟨r,HV,p⟩:=hR.same OL;let⟨r,C8,hI⟩:=p.get' (i:=e.toNat) (b:=aI d) (by rw[fK,L];rfl);let⟨aQ,Qo,rfl,p,r⟩:=id hI
   let a1:(aL k W (.lst i)) n=⇑(.lst (j.map V.int++[.int e])):=by
    rw[aK (λz=>aw (.inl z)),ax,gP];rfl
   let B:=qJ d [];refine⟨Y,Y,Y,n,Q,V,bL.of a1,gE _ _,x,Q,V,bL.of HV,?_,aQ,aI d,1,hI,?_,λz U r p u=>?_⟩
   ·let z:=cP C8;rw[show ((e.toNat:Nat):Int)=e by lia]at z;exact z
   ·show ↑(d.foldl bK [])<=_;simp only[pR]at B;lia
   rw[iV]at r;let B:(aL k W (.lst i)) W=⇑(.lst i):=af;let U:(aL k W (.lst i)) S=⇑(.dK w):=by rw[aK J.symm];exact Wa
   let k:z≠W:=(aA B u).symm;let X:z≠S:=(aA U u).symm;let u:↑(eU d)<=↑d:=List.length_filterMap_le _ d;refine⟨z,1,⟨_,bL.of r⟩,eK (K:=bZ) (e:=z) (b:=(eU d).map V.int) (λF m f=>∃ (l:List V) (t:dB) (b:List (fR × V)) (v:Option V),m=[⇑↥x,⇑(.int s),⇑(.int C),⇑↥W,⇑↥S,⇑↥n,v]/\ j0 c H W S s f l t b/\gf (λa=>a=W\/a=S) f ↥n (j++[e])/\gf (λa=>a=W\/a=S) f ↥z (eU d)/\l.length+2*nj ↑c b<=i.length+2*nj ↑c w/\↑w<=↑b) ?_ ?_ ?_ ?_⟩
   ·refine⟨i,b,w,Y,⟨p _ _ B,f.mono λ_ _ h=>(am h).same p,p _ _ U,OL.trans p,λbu a=>ai bu (kY _ a),av⟩,(am ak).same p,⟨z,1,λq=>q.elim k X,r⟩,fH _,fH _⟩
   ·rintro F m f _ ⟨_,_,_,_,_,_,_,⟨a,b,_,g⟩,_⟩;cases b;exact bL.of g
   ·rintro F a8 m f hi ⟨l,t,b,v,rfl,g,G,M,Yh,an⟩;rw[fK]at hi;let⟨y,ey,rfl⟩:=Option.map_eq_some_iff.mp hi;let N:jS c e y:=⟨e0,d,L,lK ey⟩;let⟨y0,y1⟩:=oW.DZ N
    let sy:Reach (jS c) s y:=by
     rcases aB with rfl|q
     ·exact .one N
     ·exact .step q N
    let⟨d,a2,a3,a4⟩:=id G;cases a2;let a5:↑(j++[e])<=2000:=by have:=g.kl;lia
    refine⟨Y,Y,1,Y,dM (λd=>?_) (λd=>?_)⟩
    ·let a:y=C:=V.int.inj (of_decide_eq_true d);exact absurd (a ▸ sy) nr
    ·exists Y,Y,S,Y,gW.k (k:=Sum.inl y) g.hS,Y
     cases ev:cI b (Sum.inl y) with
     | some a =>
      refine gp ?_;exact⟨l,t,b,Y,g,G,M,Yh,an⟩
     | none =>
      refine iF ?_;let d:=g.kl;refine⟨Y,Y,S,Y,zf.k (k:=Sum.inl y) g.hS (aN ∅),?_⟩;let e6:∀ {v:V} {ns:Wp},gf (λa=>a=W\/a=S) f v ns->gf (λa=>a=W\/a=S) (aL f S (.dK (fk b (Sum.inl y) (.bl true)))) v ns:=λh=>h.at _ (.inr rfl);have s6:aJ H (aL f S (.dK (fk b (Sum.inl y) (.bl true)))):=bP as g.sm (aG S _ _);have I:(aL f S (.dK (fk b (Sum.inl y) (.bl true)))) W=⇑(.lst l):=by rw[aK J];exact g.hW
      let ap:(aL f S (.dK (fk b (Sum.inl y) (.bl true)))) n=⇑(.lst ((j++[e]).map V.int)):=by rw[aK (λq=>a3 (.inr q))];exact a4
      let O:(aL f S (.dK (fk b (Sum.inl y) (.bl true)))) S=⇑(.dK (fk b (Sum.inl y) (.bl true))):=af;generalize aL f S (.dK (fk b (Sum.inl y) (.bl true)))=i at e6 s6 I ap O;let r:l.length<sizeLine:=aN (by simp only[fE]at ae;lia);refine⟨Y,.inl ⟨1,_,bL.of I⟩,Y,Y,kH,λk p=>⟨n,k,Z,ao p _ _ _ ap,af,gn (aN (by rw[cC];simp at a5 ⊢;lia)),λo d=>⟨W,Z,ao d _ _ _ (ao p _ _ _ I),r,?_⟩⟩⟩;let n:aJ i (aL i k (.lst [.int y])):=ao p _;let R:=n.trans (ao d (.lst ((j++[e]).map V.int++[.int y])));let aq:o≠W:=(aA (n _ _ I) d).symm;let a6:o≠S:=(aA (n _ _ O) d).symm;let T:∀ {v:V} {ns:Wp},gf (λa=>a=W\/a=S) f v ns->gf (λa=>a=W\/a=S) (aL (aL (aL i k (.lst [.int y])) o (.lst ((j++[e]).map V.int++[.int y]))) W (.lst (l++[↥o]))) v ns:=λh=>((e6 h).same R).at _ (.inl rfl);have d:=ER (n:=↑c) (.bl true) y0 y1 ev;have pl:↑(fk b (Sum.inl y) (.bl true))=↑b+1:=by rw[zc _ ev];simp
      exists l++[↥o],t++[j++[e]++[y]],fk b (Sum.inl y) (.bl true),Y,⟨af,cG.snoc (g.hl.mono λ_ _ h=>T h) ⟨o,1,λq=>q.elim aq a6,?_⟩,?_,bP Ss (s6.trans R) (aG W _ _),?_,?_⟩,T G,T M,?_
      ·rw[aK aq,af,gP (l₁:=j++[e])];rfl
      ·rw[aK J.symm];exact R _ _ O
      ·intro bu a;rcases List.mem_append.mp a with q|q
       ·let⟨c,a⟩:=g.wk bu q;exact⟨by lia,a⟩
       ·have:bu=j++[e]++[y]:=by simpa using q
        subst this;refine⟨?_,y,by simp,y0,y1,.inr sy⟩;rw[dh,nC,pl];lia
      ·lia
      ·rw[dh,nC];lia
      ·lia
   ·rintro m f ⟨l,t,b,v,rfl,g,G,M,Yh,an⟩;simp only[fE]at ae;refine⟨⟨l,t,b,E,1,g,by lia⟩,?_⟩;rw[OJ g.hW g.hS,fE];lia
class inductive WU
 | mk (r:Addr) (s:Int) (_:vs=[↥r,.int s]) (_:UJ [↥r,.int s,.int s] H Q E)
theorem Sv:‹(3,22,["rows","sheet"],WU)›:=λD=>by
 specialize fm ["rows","sheet"] D.Z1.F;let⟨r,s0,rfl,h⟩:=h;exists _,#v[aM (aC D.Z0 (zB D) hr #[0,1,1])]
 all_goals try dsimp only[aS,aH]
 exists Y,Y,Y;let⟨l,a,m,n,e,b,c,d,f,g,i,j,k⟩:=h;cases e;exact⟨r,a,s0,s0,1,b,c,d,f,g,i,j,k⟩
def kJ(f:Int->Int)(a:Wp):Int:=(a.map λe=>if e<0 then 1+f (-1-e) else 1).sum
def C9(f:Int->Int):aY->Int
 | .win n=>1+f n
 | .aF a b=>b-a
def Fe(f:Int->Int)(a:List aY):Int:=(a.map (C9 f)).sum
def mH(f:Int->Int)(a b:List aY):Fe f (a++b)=Fe f a+Fe f b:=by unfold Fe;rw[gP,List.sum_append]
def OM(f:Int->Int)(t:List aY)(e:Int):Fe f (bK t e)=Fe f t+(if e<0 then 1+f (-1-e) else 1):=by
 unfold bK;by_cases h:e<0
 ·rw[if_pos h,if_pos h,mH];simp[Fe,C9]
 ·rw[if_neg h,if_neg h];rcases l6 t with rfl|⟨c,l,rfl⟩
  ·simp[Fe,C9];lia
  ·rw[kj,lN]
   cases l with
   | win n =>
    show Fe f (c++[aY.win n]++[.aF e (e+1)])=_;rw[mH];simp[Fe,C9];lia
   | aF a b =>
    show Fe f (if b=e then (c++[aY.aF a b]).dropLast++[.aF a (e+1)] else (c++[aY.aF a b])++[.aF e (e+1)])=_;by_cases c:b=e
    ·rw[if_pos c,List.dropLast_concat,mH,mH];simp[Fe,C9];lia
    ·rw[if_neg c,mH];simp[Fe,C9];lia
def LM(f:Int->Int)(a:Wp):Fe f (aI a)=kJ f a:=by
 let z:∀ t:List aY,Fe f (a.foldl bK t)=Fe f t+kJ f a:=by
  induction a with
  | nil=>intro t;simp[kJ]
  | cons e a b =>
   intro t;rw[jV,b,OM];unfold kJ;rw[jv,List.sum_cons];lia
 have:=z [];unfold aI;rw[this];simp[Fe]
def Weighs(b:dB)(f:Int->Int):Prop:=∀ (x:Int) (a:Wp),0<=x->b[x.toNat]?=⇑a->f x=kJ f a
def wF(a:dB):Nat->Int->Int
 | 0,_=>0
 | k+1,x=>match a[x.toNat]? with
  | some es=>kJ (wF a k) es
  | none=>0
def HY{f g:Int->Int}{a:Wp}(h:∀ y∈eU a,f y=g y):kJ f a=kJ g a:=by
 unfold kJ;congr 1;refine List.map_congr_left λe b=>?_;by_cases c:e<0
 ·rw[if_pos c,if_pos c,h (-1-e) (cH.mpr ⟨by lia,by rw[show -1-(-1-e)=e by lia];exact b⟩)]
 ·rw[if_neg c,if_neg c]
def LN{a:dB}(h:CO a):∃ f,Weighs a f:=by
 let⟨b,g,i⟩:=h
 let j:∀ (k:Nat) (x:Int),0<=x->b x<k->wF a k x=wF a (k+1) x:=by
  intro k
  induction k with
  | zero=>intro x _ h;lia
  | succ k l =>
   intro x c b
   cases e:a[x.toNat]? with
   | none=>simp[wF,e]
   | some b =>
    let d:wF a (k+1) x=kJ (wF a k) b:=by simp[wF,e]
    let m:wF a (k+1+1) x=kJ (wF a (k+1)) b:=by
     show (match a[x.toNat]? with|some b=>kJ (wF a (k+1)) b|none=>0)=_;rw[e]
    rw[d,m];refine HY λy d=>l y (cH.mp d).1 ?_;have:=i x y ⟨c,b,e,d⟩;lia
 refine⟨wF a 41,λx b c d=>?_⟩;rw[j 41 x c (by have:=g x;lia)];show (match a[x.toNat]? with|some b=>kJ (wF a 41) b|none=>0)=_;rw[d]
class inductive oP
 | mk (v:V) (a:aY) (b:Addr) (c:List (fR × V)) (f:Int->Int) (_:vs=[v,↥b]) (_:dP H v a) (_:H b=⇑(.dK c)) (_:(∀ n,a=.win n->cI c (Sum.inl n)=⇑(.int (f n)))) (_:Q (.int (C9 f a)) H)
theorem zC:‹(1,23,["item","weights"],oP)›:=λD=>by
 specialize fm ["item","weights"] D.Z2.F;let⟨v,it,S,c,f,rfl,⟨a,rfl,b⟩,hS,hw,k⟩:=h;let c:=gR hr;exists _,#v[bO (aV eE (aP aZ (pv 0) az) bw (bh _)) #v[aM (bx cT az (gu c (pv 1) (aP aZ (pv 0) az)))] bg,aM (bx dD (aP aZ (pv 0) az) (aP aZ (pv 0) az))]
 all_goals try dsimp only[aS,aH]
 cases it with
 | win n =>
  refine⟨Y,a,Q,V,dO.of b,V,Y,dM (λ_=>?_) (λz=>absurd (by decide) z)⟩;let z:=gW.k (k:=Sum.inl n) hS;rw[hw n rfl]at z;exact⟨Y,Y,a,Q,V,dO.of b,1,S,Y,z,Z,k⟩
 | aF p q =>
  refine⟨Y,a,Q,V,dO.of b,V,Y,dM (λz=>absurd z (by decide)) (λ_=>?_)⟩;exact⟨Y,a,Q,V,dO.of b,1,Y,a,Q,V,dO.of b,1,Z,k⟩
class inductive HZ
 | mk (r L:Addr) (a:dB) (b:Wp) (f:Int->Int) (_:vs=[↥r,↥L]) (_:iu H r (a.map aI)) (_:H L=⇑(.lst (b.map V.int))) (_:↑b<=1000) (_:↑a<=1000) (_:(∀ g∈a,↑g<=1000)) (_:gT a) (_:CO a) (_:(∀ s∈b,0<=s/\s<↑a)) (_:Weighs a f) (_ :
 ∀ (c:Addr) (e:List (fR × V)) (d:Hp),d c=⇑(.dK e)->(∀ s∈b,cI e (Sum.inl s)=⇑(.int (f s)))->aJ H d->H c=none->Q ↥c d)
theorem vI:‹(3,24,["rows","sheets"],HZ)›:=λD=>by
 specialize fm ["rows","sheets","weights","number"] D.Z3.F;let⟨I,N,O,w,f,rfl,R,U,ab,eG,T,oW,xB,ae,hf,ag⟩:=h;let hu:=gR hr;refine⟨_,#v[aX 2 mF,eX PassesOwn.never rfl (cM (aC D.Wr (Fd D) hr #[0,1])) (bX 3) #v[oA hu (pv 2) (pv 3) (bU (Ew rfl) rfl D.T.Uv PyProof.Rows.boot_sum #[gS (N:=["item","weights"]) (kG (c:=cB mq) (f:=["rows","sheets","weights","number"]) (d:=[none,some 2]) rfl rfl rfl nofun nofun rfl nofun rfl nofun) rfl (cM (aP bH (pv 0) (pv 3))) (λ_ _ _ _ _ _=>(bX 0)) (λ_ _ _ _ _ _=>gQ) (λ_ _ _ _ _ _=>(aC D.Z2 (zC D) hr #[0,1]))]) rfl],aM (pv 2)],?_⟩
 all_goals try dsimp only[aS,aH]
 intro S r;let t:aJ H (aL H S (.dK [])):=ao r _;refine⟨Y,Y,I,N,O,w,1,R.same t,t _ _ U,ab,eG,T,oW,xB,ae,λv w H2 U J W sk kl YX=>?_⟩;let Wa:=J _ _ (af (H:=H) (a:=S) (o:=.dK []));let ab:w≠S:=(aA af YX).symm;refine⟨w,1,⟨_,bL.of U⟩,eK (K:=bZ) (e:=w) (b:=v.map V.int) (λk b g=>∃ (c:List (fR × V)) (u:Option V),b=[⇑↥I,⇑↥N,⇑↥S,u]/\g S=⇑(.dK c)/\(∀ y∈v.take k,cI c (Sum.inl y)=⇑(.int (f y)))/\↑c<=k/\(∀ d i,d≠S->H2 d=⇑i->g d=⇑i)) ⟨[],none,1,Wa,(λy z=>by simp at z),fH _,λ_ _ _ e=>e⟩ ?_ ?_ ?_⟩
 ·rintro k b g _ ⟨_,_,_,_,_,_,l⟩;exact bL.of (l w _ ab U)
 ·rintro k x b g X ⟨c,u,rfl,B,m,ai,l⟩;rw[fK]at X;let⟨x,o,rfl⟩:=Option.map_eq_some_iff.mp X;let⟨x0,w⟩:=W.D5 x (lK o);obtain⟨a,C⟩:∃ a,O[x.toNat]?=⇑a:=⟨_,mS ∅⟩;let w:=T a (lK C);let w:aJ H g:=λd i e=>l d i (aA e r) (J _ _ (t _ _ e));let⟨xC,HV,N⟩:=R.same w;let⟨w,C8,hI⟩:=N.get' (i:=x.toNat) (b:=aI a) (by rw[fK,C];rfl);let⟨L,Qo,rfl,w,sJ⟩:=id hI;have N:=qJ a []
  let O:↑(aI a)<=1000:=by
   show ↑(a.foldl bK [])<=_;simp only[pR]at N;lia
  let N:om xC x=⇑↥L:=by
   let q:=cP C8;rw[show ((x.toNat:Nat):Int)=x by lia]at q;exact q
  refine⟨Y,Y,I,Q,V,bL.of HV,N,L,1,⟨_,bL.of w⟩,λM cJ=>gK (K:=bZ) (h:=L) (a:=Qo) (λq b p=>∃ u:Option V,b=[u,⇑↥S]/\p M=⇑(.lst ((((aI a).take q).map (C9 f)).map V.int))/\aJ g p) ⟨none,1,af,ao cJ _⟩ (λq b p _ ⟨Q,j⟩=>bL.of (j _ _ w)) ?_ ?_⟩
  ·rintro q z b p G ⟨u,rfl,F,j⟩;let⟨q,y,w⟩:=sJ.get G;let st:=take_snoc y;unfold pV Lc;refine iF ⟨Y,Y,z,q,S,c,f,1,w.same j,j _ _ B,λn hn=>?_,?_⟩
   ·subst hn;refine m n (W.dn k x o n ⟨x0,a,C,?_⟩);rw[← iV];unfold fO;rw[List.mem_filterMap];exact⟨.win n,lK y,1⟩
   ·refine⟨_,F,(by rw[cC,cC,gm];exact aN ∅),Y,?_,bP cJ j (aG M _ _)⟩;rw[af,st,gP,gP];rfl
  ·rintro b p ⟨u,rfl,F,j⟩;rw[sJ.len,gU]at F;let ak:((aI a).map (C9 f)).sum=f x:=by rw[hf x a x0 C];exact LM f a
   let am:=j _ _ B
   let a:k<↑v:=by
    rcases Nat.lt_or_ge k ↑v with q|q
    ·exact q
    ·rw[List.getElem?_eq_none q]at o;cases o
   exists M,Y,bL.of F;rw[ak];refine⟨Y,Y,S,Y,zf.k (k:=Sum.inl x) am (aN ∅),?_⟩;refine⟨fk c (Sum.inl x) (.int (f x)),Y,af,λy z=>?_,?_,λd i n e=>?_⟩
   ·rw[kF];rw[take_snoc o]at z;by_cases G:y=x
    ·rw[if_pos (by rw[G]),G]
    ·rw[if_neg (λq=>G (Sum.inl.inj q))];rcases List.mem_append.mp z with q|q
     ·exact m y q
     ·exact absurd (by simpa using q) G
   ·have:=iL c (Sum.inl x) (V.int (f x));lia
   ·rw[aK n];exact j _ _ (l d i n e)
 ·rintro b g ⟨c,u,rfl,B,m,ai,l⟩;rw[cC,gU]at m;exact⟨Y,ag S c g B (λs a=>m s (sk s a)) (λd i e=>l d i (aA e r) (J _ _ (t _ _ e))) r⟩
def oX(g:Int->Row):aY->Row
 | .win n=>g n
 | .aF a b=>[(a,b)]
def bf(a:Y2)(e:Int):Wp:=if e<0 then a (-1-e) else [e]
def aW(a:Y2)(b:Wp):Wp:=b.flatMap (bf a)
def mJ(c:dB)(a:Y2):Prop:=∀ (x:Int) (b:Wp),0<=x->c[x.toNat]?=⇑b->a x=aW a b
def bI(a:Y2)(b:List aY):Row:=b.flatMap (oX λn=>cL (a n))
def rT(t:List aY):Prop:=∀ a b,aY.aF a b∈t->a<b
def ff(a:Y2)(b c:List aY):bI a (b++c)=bI a b++bI a c:=by unfold bI;rw[List.flatMap_append]
def jm(a:Y2)(b:aY):bI a [b]=oX (λn=>cL (a n)) b:=by simp[bI]
def LO(c:Y2)(t:List aY)(e:Int)(d:rT t):bC (bI c (bK t e))=bC (bI c t)++bf c e/\rT (bK t e):=by
 let i:∀ j:aY,(∀ a b,j=.aF a b->a<b)->rT (t++[j]):=λj h a b k=>by
  rcases List.mem_append.mp k with z|z
  ·exact d a b z
  ·exact h a b (List.mem_singleton.mp z).symm
 unfold bK;by_cases h:e<0
 ·rw[if_pos h];refine⟨?_,i _ λa b z=>by cases z⟩;rw[ff,cQ,jm];show _++bC (cL (c (-1-e)))=_;rw[eT];unfold bf;rw[if_pos h]
 ·rw[if_neg h]
  let o:bC [(e,e+1)]=[e]:=by
   rw[fC];unfold gx;have:(e+1-e).toNat=1:=by lia
   show run e (e+1-e).toNat=_;rw[this];rfl
  let l:bf c e=[e]:=by unfold bf;rw[if_neg h]
  let f:bC (bI c (t++[.aF e (e+1)]))=bC (bI c t)++bf c e/\rT (t++[.aF e (e+1)]):=by
   refine⟨?_,i _ λa b z=>by cases z;lia⟩;rw[ff,cQ,jm,l];show _++bC [(e,e+1)]=_;rw[o]
  rcases l6 t with rfl|⟨g,r,rfl⟩
  ·exact f
  ·rw[kj]at d i f ⊢;rw[lN]
   cases r with
   | win n=>exact f
   | aF a b =>
    show bC (bI c (if b=e then (g++[aY.aF a b]).dropLast++[.aF a (e+1)] else (g++[aY.aF a b])++[.aF e (e+1)]))=_/\rT (if b=e then (g++[aY.aF a b]).dropLast++[.aF a (e+1)] else (g++[aY.aF a b])++[.aF e (e+1)]);by_cases m:b=e
    ·subst m;let g:=d a b (by simp);rw[if_pos rfl,List.dropLast_concat];refine⟨?_,λp q k=>?_⟩
     ·rw[ff,ff,cQ,cQ,jm,jm,l,ko];congr 1;show bC [(a,b+1)]=bC [(a,b)]++[b];rw[fC,fC];unfold gx;show run a (b+1-a).toNat=run a (b-a).toNat++[b];have:(b+1-a).toNat=(b-a).toNat+1:=by lia
      rw[this,jD];congr 2;lia
     ·rcases List.mem_append.mp k with z|z
      ·exact d p q (n9 _ z)
      ·let s:aY.aF p q=aY.aF a (b+1):=by simpa using z
       cases s;lia
    ·rw[if_neg m];exact f
def zD(b:Y2)(a:Wp):bC (bI b (aI a))=aW b a/\rT (aI a):=by
 let z:∀ t:List aY,rT t->bC (bI b (a.foldl bK t))=bC (bI b t)++aW b a/\rT (a.foldl bK t):=by
  induction a with
  | nil=>intro t c;exact⟨by simp[aW],c⟩
  | cons e a d =>
   intro t c;let⟨f,g⟩:=LO b t e c;let⟨c,e⟩:=d _ g;refine⟨?_,e⟩;rw[jV,c,f,ko];unfold aW;rw[jb]
 let q:=z [] (λc d h=>by cases h);refine⟨?_,q.2⟩;unfold aI;rw[q.1];rfl
def LP(c:Y2)(d:aY)(h:∀ a b,d=.aF a b->a<b):↑(oX (λn=>cL (c n)) d)<=↑(bC (oX (λn=>cL (c n)) d)):=by
 cases d with
 | win n =>
  show ↑(cL (c n))<=↑(bC (cL (c n)));rw[eT];let z:=ED (c n) [];simpa [cL] using z
 | aF a b =>
  let e:=h a b rfl;show 1<=↑(bC [(a,b)]);rw[fC];unfold gx;show 1<=↑(run a (b-a).toNat);rw[JT];lia
theorem sV(a:Y2):∀ b:List aY,rT b->↑(bI a b)<=↑(bC (bI a b))
 | [],_=>by simp[bI]
 | it::b,h=>by
  let e:bI a (it::b)=oX (λn=>cL (a n)) it++bI a b:=by unfold bI;rw[jb]
  rw[e,cQ,dh,dh];let c:=LP a it (λc d z=>h c d (by rw[← z];simp));let d:=sV a b (λc d z=>h c d (kY _ z));lia
def LQ(f:Y2)(c:List aY)(h:rT c):∀ p∈bI f c,p.1<=p.2:=by
 intro p d;unfold bI at d;let⟨g,i,e⟩:=List.mem_flatMap.mp d
 cases g with
 | win n=>exact kB _ p e
 | aF a b =>
  have:p=(a,b):=by simpa [oX] using e
  subst this;have:=h a b i;show a<=b;lia
class inductive LR
 | mk (v:V) (b:aY) (e:Addr) (c:List (fR × V)) (g:Int->Row) (_:vs=[v,↥e]) (_:dP H v b) (_:H e=⇑(.dK c)) (_:(∀ n,b=.win n->∃ a,cI c (Sum.inl n)=⇑↥a/\bV H a (g n))) (_ :
 ∀ (a:Addr) (d:Hp),bV d a (oX g b)->aJ H d->((∃ n,b=.win n/\cI c (Sum.inl n)=⇑↥a)\/H a=none)->Q ↥a d)
theorem wY:‹(1,25,["item","views"],LR)›:=λD=>by
 specialize fm ["item","views"] D.Ws.F;let⟨v,it,S,e,g,rfl,⟨a,rfl,b⟩,hS,hw,k⟩:=h;let e:=gR hr;exists _,#v[bO (aV eE (aP aZ (pv 0) az) bw (bh _)) #v[aM (gu e (pv 1) (aP aZ (pv 0) az))] bg,aM (bJ #[cZ #[aP aZ (pv 0) az,aP aZ (pv 0) az]])]
 all_goals try dsimp only[aS,aH]
 cases it with
 | win n =>
  refine⟨Y,a,Q,V,dO.of b,V,Y,dM (λ_=>?_) (λz=>absurd (by decide) z)⟩;let⟨d,c,f⟩:=hw n rfl;let z:=gW.k (k:=Sum.inl n) hS;rw[c]at z;exact⟨Y,Y,a,Q,V,dO.of b,1,S,Y,z,k d H f (aJ.refl H) (.inl ⟨n,1,c⟩)⟩
 | aF p q =>
  refine⟨Y,a,Q,V,dO.of b,V,Y,dM (λz=>absurd z (by decide)) (λ_=>?_)⟩;refine⟨Y,a,Q,V,dO.of b,1,Y,a,Q,V,dO.of b,1,mT,λt a=>⟨kH,λl c=>?_⟩⟩;let d:aJ H (aL H t (.tup [.int p,.int q])):=ao a _;let a:=d.trans (ao c (.lst [↥t]));refine k l _ ⟨[t],af,.cons ?_ .nil⟩ a (.inr ?_)
  ·exact ao c _ _ _ af
  ·cases f:H l with
   | none=>rfl
   | some o=>exact absurd ((d _ _ f).symm.trans c) (by simp)
theorem bG.Ff{H c:Hp}{d:Addr}{h:List (fR × V)}(e:H d=⇑(.dK h))(k:∀ a f,a≠d->H a=⇑f->c a=⇑f):∀ {g:WF} {r:Row},bG H g r->bG c g r
 | _,_,.nil=>.nil
 | _,_,.cons r t=>.cons (k _ _ (λz=>by
   let b:=r;unfold j3 at b;rw[z,e]at b
   cases b) r) (bG.Ff e k t)
def bV.Ff{H c:Hp}{b a:Addr}{f:List (fR × V)}{d:Row}(g:H b=⇑(.dK f))(n:a≠b)(k:∀ a e,a≠b->H a=⇑e->c a=⇑e)(h:bV H a d):bV c a d:=by
 let⟨i,j,p⟩:=h;exact⟨i,k _ _ n j,p.Ff g k⟩
def J1(H:Hp)(b:List (fR × V))(c:Y2)(d:Wp):Prop:=∀ x∈d,∃ a,cI b (Sum.inl x)=⇑↥a/\bV H a (cL (c x))
class inductive Sw
 | mk (r L:Addr) (b:dB) (c:Wp) (f:Y2) (_:vs=[↥r,↥L]) (_:iu H r (b.map aI)) (_:H L=⇑(.lst (c.map V.int))) (_:↑c<=1000) (_:↑b<=1000) (_:(∀ i∈b,↑i<=1000)) (_:gT b) (_:CO b) (_:(∀ s∈c,0<=s/\s<↑b)) (_:mJ b f) (_:(∀ x:Int,0<=x->x<↑b->↑(f x)<=10000)) (_ :
 ∀ (g:Addr) (h:List (fR × V)) (d:Wp) (e:Hp),e g=⇑(.dK h)->J1 e h f d->LK b d->(∀ s∈c,s∈d)->(∀ x∈d,∀ a,cI h (Sum.inl x)=⇑↥a->H a=none)->aJ H e->H g=none->Q ↥g e)
theorem jJ:‹(3,26,["rows","sheets"],Sw)›:=λD=>by
 specialize fm ["rows","sheets","views","number"] D.OB.F;let⟨ai,am,an,ss,b,rfl,hR,hL,aw,eG,ax,oW,xB,aB,wB,D0,aO⟩:=h;let hu:=gR hr;refine⟨_,#v[aX 2 mF,eX PassesOwn.never rfl (cM (aC D.Wr (Fd D) hr #[0,1])) (bX 3) #v[oA hu (pv 2) (pv 3) (aC D.Wi (nT D) hr #[vC (N:=["item","stretch","views"]) (kG (c:=cB oq) (f:=["rows","sheets","views","number"]) (d:=[none,none,some 2]) rfl rfl rfl nofun nofun rfl nofun rfl nofun) rfl (cM (aP bH (pv 0) (pv 3))) (λ_ _ _ _ _ _=>(bX 0)) (λ_ _ _ _ _ _=>gQ) (λ_ _ _ _ _ _=>(EJ (aC D.Ws (wY D) hr #[0,2]))) (λ_ _ _ _ _ _=>(bX 1)) (λ_ _ _ _ _ _=>gQ) (λ_ _ _ _ _ _=>(pv 1))]) rfl],aM (pv 2)],?_⟩
 all_goals try dsimp only[aS,aH]
 intro S U;let W:aJ H (aL H S (.dK [])):=ao U _;refine⟨Y,Y,ai,am,an,ss,1,hR.same W,W _ _ hL,aw,eG,ax,oW,xB,aB,λG X H2 ho s2 tp sk kl YX=>?_⟩;let Wa:=s2 _ _ (af (H:=H) (a:=S) (o:=.dK []));let aQ:X≠S:=(aA af YX).symm;refine⟨X,1,⟨_,bL.of ho⟩,eK (K:=bZ) (e:=X) (b:=G.map V.int) (λr f m=>∃ (i:List (fR × V)) (u:Option V),f=[⇑↥ai,⇑↥am,⇑↥S,u]/\m S=⇑(.dK i)/\J1 m i b (G.take r)/\↑i<=r/\(∀ x a,cI i (Sum.inl x)=⇑↥a->H a=none/\a≠S)/\(∀ a d,a≠S->H2 a=⇑d->m a=⇑d)) ⟨[],none,1,Wa,(λy t=>by simp at t),fH _,(λx a e=>by cases e),λ_ _ _ e=>e⟩ ?_ ?_ ?_⟩
 ·rintro r f m _ ⟨_,_,_,_,_,_,_,v⟩;exact bL.of (v X _ aQ ho)
 ·rintro r x f m hi ⟨i,u,rfl,I,w,a0,ab,v⟩;rw[fK]at hi;let⟨x,B,rfl⟩:=Option.map_eq_some_iff.mp hi;let⟨x0,x1⟩:=tp.D5 x (lK B);obtain⟨c,fQ⟩:∃ c,an[x.toNat]?=⇑c:=⟨_,mS ∅⟩;let OL:aJ H m:=λa d e=>v a d (aA e U) (s2 _ _ (W _ _ e));let⟨xC,HV,X⟩:=hR.same OL;let⟨vi,C8,hI⟩:=X.get' (i:=x.toNat) (b:=aI c) (by rw[fK,fQ];rfl);let⟨ak,Qo,rfl,X,sJ⟩:=id hI;let⟨KQ,ap⟩:=zD b c;have aq:=wB x c x0 fQ
  let je:↑(bI b (aI c))<=10000:=by
   let z:=sV b (aI c) ap;rw[KQ,← aq]at z;have:=D0 x x0 x1;lia
  let a1:∀ j,↑(bI b ((aI c).take j))<=10000:=λj=>by
   let e:bI b (aI c)=bI b ((aI c).take j)++bI b ((aI c).drop j):=by rw[← ff,List.take_append_drop]
   rw[e,dh]at je;lia
  let uD:om xC x=⇑↥ak:=by
   let z:=cP C8;rw[show ((x.toNat:Nat):Int)=x by lia]at z;exact z
  refine⟨Y,Y,ai,Q,V,bL.of HV,uD,ak,1,⟨_,bL.of X⟩,λk cJ=>qp (K:=bZ) (f:=ak) (a:=Qo) (λj f C=>∃ (u ae:Option V) (o:WF),f=[u,ae,⇑↥S]/\C k=⇑(.lst (o.map V.ref))/\bG C o (bI b ((aI c).take j))/\aJ m C) ⟨none,none,[],1,af,.nil,ao cJ _⟩ (λj f C _ ⟨Q,Q,g⟩=>bL.of (g _ _ X)) ?_ ?_⟩
  ·rintro j ae f C hj ⟨u,u2,o,rfl,h5,J,g⟩;let⟨it,ei,X⟩:=sJ.get hj;let st:bI b ((aI c).take (j+1))=bI b ((aI c).take j)++oX (λn=>cL (b n)) it:=by rw[take_snoc ei,ff,jm]
   refine Rm ?_;refine iF ?_;refine⟨Y,Y,ae,it,S,i,(λn=>cL (b n)),1,X.same g,g _ _ I,λn L=>?_,λa2 M R6 s a3=>?_⟩
   ·subst L
    let⟨a,l,F⟩:=w n (tp.dn r x B n ⟨x0,c,fQ,by
     rw[← iV];unfold fO;rw[List.mem_filterMap]
     exact⟨.win n,lK ei,1⟩⟩)
    exact⟨a,l,F.same g⟩
   let⟨t,ar,p6⟩:=id R6
   let a4:a2≠k:=by
    rcases a3 with ⟨n,L,p⟩|L
    ·subst L
     let⟨a,l,y,q,_⟩:=w n (tp.dn r x B n ⟨x0,c,fQ,by
      rw[← iV];unfold fO;rw[List.mem_filterMap]
      exact⟨.win n,lK ei,1⟩⟩)
     rw[p]at l;cases l;exact aA q cJ
    ·exact (aA h5 L).symm
   let h6:=s _ _ h5;let L:=a1 (j+1);rw[st,dh]at L;let L:=J.len;let a5:=p6.len;refine⟨a2,1,⟨_,bL.of ar⟩,zj (K:=bZ) (j:=a2) (o:=k) (t:=pV 1) (tt:=Lc) (u:=QG 1) (b:=t.map V.ref) (λp f l=>∃ v2:Option V,f=[⇑ae,v2,⇑↥S]/\l k=⇑(.lst ((o++t.take p).map V.ref))/\bG l (o++t.take p) (bI b ((aI c).take j)++(oX (λn=>cL (b n)) it).take p)/\cF k M l/\aJ m l) ?_ ?_ ?_ ?_⟩
   ·exact⟨u2,1,(by simpa using h6),(by simpa using J.same s),(λ_ _ e _=>e),g.trans s⟩
   ·rintro p f l _ ⟨_,_,_,_,N,_⟩;exact bL.of (N a2 _ ar a4)
   ·rintro p y f l hl ⟨v2,rfl,F,O,N,s7⟩;rw[fK]at hl;let⟨ag,R,rfl⟩:=Option.map_eq_some_iff.mp hl;let⟨T,a6,au⟩:=p6.get R
    let j:p<t.length:=by
     rcases Nat.lt_or_ge p t.length with q|q
     ·exact q
     ·rw[List.getElem?_eq_none q]at R;cases R
    let av:j3 l ag T:=N ag _ au (λz=>by
     let q:M k=⇑(.tup [.int T.1,.int T.2]):=by rw[← z];exact au
     rw[h6]at q
     cases q)
    let K8:cF k l (aL l k (.lst ((o++t.take p).map V.ref++[↥ag]))):=aG k _ _;refine Rm ?_;refine iF ?_;refine⟨Y,_,F,?_,Y,?_,?_,?_,bP cJ s7 K8⟩
    ·rw[cC,dh,gm];exact aN ∅
    ·rw[af,take_snoc R,← ko,gP (l₁:=o++t.take p)];rfl
    ·rw[take_snoc R,take_snoc a6,← ko,← ko]
     exact bG.snoc (O.keep F K8) (K8 ag _ av (λz=>by
      let q:l k=⇑(.tup [.int T.1,.int T.2]):=by rw[← z];exact av
      rw[F]at q
      cases q))
    ·exact λa d e n=>K8 a d (N a d e n) n
   ·rintro f l ⟨v2,rfl,F,O,N,s7⟩;rw[cC,gU]at F O;rw[a5,gU]at O;exact⟨Q,1,F,(by rw[st];exact O),s7⟩
  ·rintro f C ⟨u,u2,o,rfl,h5,J,g⟩;rw[sJ.len,gU]at J
   let j:r<↑G:=by
    rcases Nat.lt_or_ge r ↑G with q|q
    ·exact q
    ·rw[List.getElem?_eq_none q]at B;cases B
   refine⟨k,Y,⟨o,h5,J⟩,by lia,λq M R6 s O=>?_⟩;let L:=s _ _ (g _ _ I);let R:q≠S:=(aA (g _ _ I) O).symm;let j:cD (bI b (aI c))=cL (b x):=by rw[nM _ (LQ b _ ap),KQ,aq]
   rw[j]at R6;let N:∀ a d,a≠S->M a=⇑d->aL M S (.dK (fk i (Sum.inl x) ↥q)) a=⇑d:=λa d n e=>by rw[aK n];exact e
   refine⟨Y,Y,S,Y,zf.k (k:=Sum.inl x) L (aN ∅),?_⟩;refine⟨fk i (Sum.inl x) ↥q,Y,af,λy t=>?_,?_,λy a e=>?_,λa d n e=>N a d n (s _ _ (g _ _ (v a d n e)))⟩
   ·rw[kF];by_cases p:y=x
    ·rw[if_pos (by rw[p]),p];exact⟨q,1,R6.Ff L R N⟩
    ·rw[if_neg (λz=>p (Sum.inl.inj z))];rw[take_snoc B]at t;rcases List.mem_append.mp t with z|z
     ·let⟨a,l,F⟩:=w y z;exact⟨a,l,((F.same g).same s).Ff L (ab y a l).2 N⟩
     ·exact absurd (by simpa using z) p
   ·have:=iL i (Sum.inl x) (V.ref q);lia
   ·rw[kF]at e;by_cases p:y=x
    ·rw[if_pos (by rw[p])]at e;cases e;refine⟨?_,R⟩
     cases z:H q with
     | none=>rfl
     | some d=>exact absurd ((g _ _ (OL _ _ z)).symm.trans O) (by simp)
    ·rw[if_neg (λz=>p (Sum.inl.inj z))]at e;exact ab y a e
 ·rintro f m ⟨i,u,rfl,I,w,a0,ab,v⟩;rw[cC,gU]at w;exact⟨Y,aO S i G m I w tp sk (λx _ a e=>(ab x a e).1) (λa d e=>v a d (aA e U) (s2 _ _ (W _ _ e))) U⟩
class inductive Sx
 | mk (r:Addr) (a:dB) (s:Int) (b:Y2) (_:vs=[↥r,.int s]) (_:iu H r (a.map aI)) (_:↑a<=1000) (_:(∀ d∈a,↑d<=1000)) (_:gT a) (_:CO a) (_:0<=s) (_:s<↑a) (_:mJ a b) (_:(∀ x:Int,0<=x->x<↑a->↑(b x)<=10000)) (_ :
 ∀ (o:Addr) (c:Hp),bV c o (cL (b s))->aJ H c->H o=none->Q ↥o c)
theorem Fg:‹(4,27,["rows","sheet"],Sx)›:=λD=>by
 specialize fm ["rows","sheet"] D.OC.F;let⟨r,a,s,c,rfl,d,e,f,g,i,j,k,l,m,n⟩:=h;let b:=gR hr;exists _,#v[aM (gu b (aC D.OB (jJ D) hr #[0,bJ #[1]]) (pv 1))]
 all_goals try dsimp only[aS,aH]
 refine⟨Y,Y,kH,λL o=>?_⟩;let b:aJ H (aL H L (.lst [.int s])):=ao o _;refine⟨r,L,a,[s],c,1,d.same b,af,(by simp),e,f,g,i,(λx a=>by rw[List.mem_singleton.mp a];exact⟨j,k⟩),l,m,λS c d e f g k a i j _=>?_⟩;let a:=a s (by simp);let⟨c,d,k⟩:=g s a;let z:=gW.k (k:=Sum.inl s) f;rw[d]at z;exact⟨Y,S,Y,z,n c e k (b.trans j) (aU b (i s a c d))⟩
def WW:aY->aY->Bool
 | .aF _ b,.aF c _=>decide (b=c)
 | _,_=>false
class inductive WX
 | mk (x y:V) (i j:aY) (_:vs=[x,y]) (_:dP H x i) (_:dP H y j) (_:Q (.bl (WW i j)) H)
theorem Ia:‹(1,28,["one","other"],WX)›:=λD=>by
 specialize fm ["one","other"] D.Z4.F;let⟨x,y,i,j,rfl,⟨a,rfl,b⟩,⟨c,rfl,d⟩,k⟩:=h;exists _,#v[aM (oh (jw eE (aP aZ (pv 0) az) bw (bh _)) (oh (jw eE (aP aZ (pv 1) az) bw (bh _)) (pT (jw eE (aP aZ (pv 0) az) (aP aZ (pv 1) az) (bh _)))))]
 all_goals try dsimp only[aS,aH]
 cases i with
 | win n=>exact⟨Y,a,Q,V,dO.of b,V,Y,dM (λz=>absurd z (by decide)) (λ_=>k)⟩
 | aF p q =>
  refine⟨Y,a,Q,V,dO.of b,V,Y,dM (λ_=>?_) (λz=>absurd (by decide) z)⟩
  cases j with
  | win n=>exact⟨Y,c,Q,V,dO.of d,V,Y,dM (λz=>absurd z (by decide)) (λ_=>k)⟩
  | aF u v =>
   refine⟨Y,c,Q,V,dO.of d,V,Y,dM (λ_=>?_) (λz=>absurd (by decide) z)⟩;exists Y,a,Q,V,dO.of b,1,Y,c,Q,V,dO.of d,V
   let e:decide (V.int q=V.int u)=decide (q=u):=by
    by_cases c:q=u
    ·rw[c];simp
    ·let a:¬ V.int q=V.int u:=λz=>c (V.int.inj z);rw[decide_eq_false c,decide_eq_false a]
   rw[e];exact k
def b9(t:List aY)(c:aY):List aY :=
 match t.getLast?,c with
 | some (.aF a b),.aF d e=>if b=d then t.dropLast++[.aF a e] else t++[c]
 | _,_=>t++[c]
def Ib(a:List aY):List aY:=a.foldl b9 []
def Ic(a:List aY):∀ t:List aY,↑(a.foldl b9 t)<=↑t+↑a:=by
 induction a with
 | nil=>intro t;simp
 | cons e a b =>
  intro t;rw[jV];let z:=b (b9 t e)
  let b:↑(b9 t e)<=↑t+1:=by
   unfold b9;split
   ·split
    ·rw[dh,List.length_dropLast,nC];lia
    ·simp
   ·simp
  rw[fE];lia
class inductive Dc
 | mk (r:Addr) (a:List aY) (_:vs=[↥r]) (_:b8 H ↥r a) (_:↑a<=1000000) (_ :
 ∀ (o:Addr) (b:Hp),b8 b ↥o (Ib a)->aJ H b->H o=none->Q ↥o b)
theorem iO:‹(2,29,["items"],Dc)›:=λD=>by
 refine fm ["items","told","item"] D.LG.F λdF A zn s H vs Q E hr _ h=>?_;let⟨r,c,rfl,⟨W,M,v,F,G⟩,X,k⟩:=h;cases v;refine⟨_,#v[aX 1 (bJ ah),eX PassesOwn.never rfl (cM (pv 0)) (bX 2) #v[bO (PW.pt (pS (jd (pv 1) (λ_=>rfl)) (mW (mh (aC D.Z4 (Ia D) hr #[aP bH (pv 1) (ig fF az),2]))))) #v[ng (cZ #[bw,aP aZ (aP bH (pv 1) (ig fF az)) az,aP aZ (pv 2) az]) (pW (pv 1) (ig fF az) ku)] #v[aT (dX n8 jt ju bT (pv 1) #[2])]],aM (pv 1)],?_⟩
 all_goals try dsimp only[aS,aH]
 refine⟨iy,λq l=>?_⟩;let s0:aJ H (aL H q (.lst [])):=ao l _;refine⟨Y,r,1,⟨_,bL.of (s0 _ _ F)⟩,eK (K:=bZ) (e:=r) (b:=M) (λi m b=>∃ (vs:List V) (w:Option V),m=[⇑↥r,⇑↥q,w]/\b q=⇑(.lst vs)/\cG (dP b) vs ((c.take i).foldl b9 [])/\aJ H b) ⟨[],none,1,af,.nil,s0⟩ (by rintro i m b _ ⟨_,_,_,_,_,s⟩;exact bL.of (s _ _ F)) ?_ ?_⟩
 ·rintro i x m b N ⟨vs,w,rfl,a,e,s⟩;let⟨f,F,M⟩:=G.get N;let y:=M.same s;let step:(c.take (i+1)).foldl b9 []=b9 ((c.take i).foldl b9 []) f:=by rw[take_snoc F,List.foldl_append];rfl
  let o:↑vs<sizeLine:=by
   let z:=e.len;let d:=Ic (c.take i) [];rw[gm,pR]at d;exact aN ∅
  let p:b9 ((c.take i).foldl b9 []) f=(c.take i).foldl b9 []++[f]->∃ (F:List V) (M:Option V),[⇑(V.ref r),⇑↥q,⇑x]=[⇑↥r,⇑↥q,M]/\(aL b q (.lst (vs++[x]))) q=⇑(.lst F)/\cG (dP (aL b q (.lst (vs++[x])))) F ((c.take (i+1)).foldl b9 [])/\aJ H (aL b q (.lst (vs++[x]))):=λv=>by
   refine⟨E,1,af,?_,bP l s (aG q _ _)⟩;rw[step,v];exact cG.snoc (e.mono λv i h=>h.keep a (aG q _ _)) (y.keep a (aG q _ _))
  rcases l6 ((c.take i).foldl b9 []) with d|⟨B,I,d⟩
  ·let g:vs=[]:=by
    rw[d]at e;exact List.eq_nil_of_length_eq_zero e.len
   subst g;refine⟨Y,false,.inl ⟨_,bL.of a,1⟩,gp (gp ?_)⟩;refine⟨Y,.inl ⟨1,_,bL.of a⟩,Y,q,Z,a,o,p ?_⟩;rw[d];rfl
  ·rw[kj]at d;let J:=e;rw[d]at J;let⟨O,v0,rfl,R,L⟩:=J.split;let⟨S,rfl,T⟩:=id L;refine⟨Y,true,.inl ⟨_,bL.of a,by simp⟩,iF ?_⟩;exists Y,Y,q,Q,V,bL.of a,gE _ _,Y,E,I,f,1,L,y,Y
   cases I with
   | win n =>
    refine gp ?_;refine⟨Y,.inl ⟨1,_,bL.of a⟩,Y,q,Z,a,o,p ?_⟩;rw[d];unfold b9;rw[lN]
   | aF t g =>
    cases f with
    | win n =>
     refine gp ?_;refine⟨Y,.inl ⟨1,_,bL.of a⟩,Y,q,Z,a,o,p ?_⟩;rw[d];unfold b9;rw[lN]
    | aF j u =>
     refine dM (λz=>?_) (λz=>?_)
     ·let C:g=j:=of_decide_eq_true z;let⟨U,rfl,f⟩:=id y;refine⟨Y,Y,q,Q,V,bL.of a,gE _ _,S,Q,V,dO.of T,1,Y,U,Q,V,dO.of f,1,LA,λr f=>?_⟩;refine⟨Y,Y,q,E,↑O,V,ao f _ _ _ a,(by rw[dh];exact Ez _),?_⟩;rw[yV];refine⟨E,1,af,?_,bP l (s.trans (ao f _)) (aG q _ _)⟩
      let r:(c.take (i+1)).foldl b9 []=B++[.aF t u]:=by
       rw[step,d];unfold b9;rw[lN,List.dropLast_concat];show (if g=j then B++[aY.aF t u] else _)=_;rw[if_pos C]
      rw[r];exact cG.new (it:=.aF t u) a R f _
     ·let C:¬ g=j:=λbu=>z (decide_eq_true bu);refine⟨Y,.inl ⟨1,_,bL.of a⟩,Y,q,Z,a,o,p ?_⟩;rw[d];unfold b9;rw[lN];show (if g=j then _ else B++[aY.aF t g]++[aY.aF j u])=_;rw[if_neg C]
 ·rintro m b ⟨vs,w,rfl,a,e,s⟩;rw[G.len,gU]at e;exact⟨Y,k q b ⟨q,vs,1,a,e⟩ s l⟩
def cX(r:Row):List aY:=r.map λp=>.aF p.1 p.2
class inductive Sy
 | mk (r:Addr) (a:Row) (_:vs=[↥r]) (_:bV H r a) (_:↑a<=100000) (_ :
 ∀ (o:Addr) (b:Hp),b8 b ↥o (cX (cD a))->aJ H b->H o=none->Q ↥o b)
theorem mK:‹(2,30,["row"],Sy)›:=λD=>by
 specialize fm ["row"] D.E4.F;let⟨m,b,rfl,R,q,s⟩:=h;refine⟨_,#v[aM (gS (N:=["start","stop"]) (kG (c:=cB Hj) (f:=["row"]) (d:=[none,none]) rfl rfl rfl nofun nofun rfl nofun rfl nofun) rfl (cM (aC D.Wi (nT D) hr #[0])) (λ_ _ _ _ _ _=>(qI (n:=2) rfl (bS (bX 0) (bS (bX 1) gB)))) (λ_ _ _ _ _ _=>gQ) (λ_ _ _ _ _ _=>(cZ #[bw,0,1])))],?_⟩
 all_goals try dsimp only[aS,aH]
 refine⟨Y,m,b,1,R,by lia,λq t w l m=>?_⟩;let⟨x,m,n⟩:=id w;let w:=iU b;refine⟨q,1,⟨_,bL.of m⟩,λc g=>gK (K:=bZ) (h:=q) (a:=x.map V.ref) (λi e a=>∃ (u v:Option V) (vs:List V),e=[u,v]/\a c=⇑(.lst vs)/\cG (dP a) vs (cX ((cD b).take i))/\aJ t a) ⟨none,none,[],1,af,.nil,ao g _⟩ (by rintro i e a _ ⟨_,_,_,_,_,_,s0⟩;exact bL.of (s0 _ _ m)) ?_ ?_⟩
 ·rintro i B e a o ⟨u,v,vs,rfl,f,d,s0⟩;rw[fK]at o;let⟨y,z,rfl⟩:=Option.map_eq_some_iff.mp o;let⟨⟨p,r⟩,o,q⟩:=n.get z;let m:=d.len;unfold cX at m;rw[cC,gm]at m;refine⟨y,Y,dO.of (s0 _ _ q),1,E,1,Z,yes (iF ?_)⟩;refine⟨Y,Y,LA,λt j=>?_⟩;refine⟨vs,ao j _ _ _ f,aN ∅,Q,1,af,?_,bP g (s0.trans (ao j _)) (aG c _ _)⟩
  let k:cX ((cD b).take (i+1))=cX ((cD b).take i)++[.aF p r]:=by
   rw[take_snoc o];unfold cX;rw[gP];rfl
  rw[k];exact cG.new (it:=.aF p r) f d j _
 ·rintro e a ⟨u,v,vs,rfl,f,d,s0⟩;rw[cC,n.len,gU]at d;refine s c a ⟨c,vs,1,f,d⟩ (l.trans s0) ?_
  cases k:H c with
  | none=>rfl
  | some o=>exact absurd ((l _ _ k).symm.trans g) (by simp)
def gh:aY->List Int
 | .win n=>[-1-n]
 | .aF a b=>run a (b-a).toNat
def dQ(a:List aY):Wp:=a.flatMap gh
def lI:aY->Prop
 | .win n=>0<=n
 | .aF a b=>0<=a/\a<b
def gy(a:List aY):Prop:=∀ b∈a,lI b
def fX(a b:List aY):dQ (a++b)=dQ a++dQ b:=by unfold dQ;rw[List.flatMap_append]
def kK(a:aY):dQ [a]=gh a:=by simp[dQ]
theorem gy.append{a b:List aY}(h:gy a)(g:gy b):gy (a++b):=λc d=>(List.mem_append.mp d).elim (h c) (g c)
theorem gy.one{a:aY}(h:lI a):gy [a]:=λc b=>by rw[List.mem_singleton.mp b];exact h
def ON(t:List aY){n:Int}(h:0<=n):bK t (-1-n)=t++[.win n]:=by
 unfold bK;rw[if_pos ∅];congr 3;lia
def LS(t:List aY)(p s:Int)(h:0<=s):bK (t++[.aF p s]) s=t++[.aF p (s+1)]:=by
 unfold bK;rw[if_neg ∅,lN];show (if s=s then (t++[aY.aF p s]).dropLast++[.aF p (s+1)] else _)=_;rw[if_pos rfl,List.dropLast_concat]
theorem Ca(t:List aY)(p:Int):∀ (n:Nat) (s:Int),0<=s->(run s n).foldl bK (t++[.aF p s])=t++[.aF p (s+n)]
 | 0,s,_=>by simp[run]
 | n+1,s,h=>by
  rw[run,jV,LS t p s h,Ca t p n (s+1) ∅];congr 3;lia
def Ie(t:List aY)(c:aY)(h:lI c):b9 t c=(gh c).foldl bK t:=by
 cases c with
 | win n =>
  show b9 t (.win n)=bK t (-1-n);rw[ON t h];unfold b9
  cases t.getLast? with
  | none=>rfl
  | some l=>cases l <;> rfl
 | aF a b =>
  let⟨e,f⟩:=h;let e:(b-a).toNat=(b-(a+1)).toNat+1:=by lia
  show b9 t (.aF a b)=(run a (b-a).toNat).foldl bK t;rw[e,run,jV]
  let d:∀ (u:List aY) (p:Int),(run (a+1) (b-(a+1)).toNat).foldl bK (u++[.aF p (a+1)])=u++[.aF p b]:=λu p=>by
   rw[Ca u p _ _ ∅];congr 3;lia
  unfold b9 bK;rw[if_neg ∅]
  cases t.getLast? with
  | none=>exact (d t a).symm
  | some l =>
   cases l with
   | win n=>exact (d t a).symm
   | aF p q =>
    show (if q=a then t.dropLast++[aY.aF p b] else t++[aY.aF a b])=List.foldl bK (if q=a then t.dropLast++[aY.aF p (a+1)] else t++[aY.aF a (a+1)]) _;by_cases e:q=a
    ·rw[if_pos e,if_pos e,d]
    ·rw[if_neg e,if_neg e,d]
def kL(a:List aY)(h:gy a):Ib a=aI (dQ a):=by
 unfold Ib aI dQ;rw[mD]
 let z:∀ (a:List aY) (t:List aY),gy a->a.foldl b9 t=a.foldl (λc b=>(gh b).foldl bK c) t:=by
  intro a
  induction a with
  | nil=>intro t _;rfl
  | cons it a b =>
   intro t h;rw[jV,jV,Ie t it (h it (by simp))];exact b _ λi b=>h i (kY _ b)
 exact z a [] h
def LV(t:List aY)(e:Int)(h:gy t):dQ (bK t e)=dQ t++[e]/\gy (bK t e):=by
 unfold bK;by_cases f:e<0
 ·rw[if_pos f,fX,kK];refine⟨?_,h.append (gy.one (by show 0<=-1-e;lia))⟩;show dQ t++[-1-(-1-e)]=_;rw[show -1-(-1-e)=e by lia]
 ·rw[if_neg f]
  let c:dQ (t++[.aF e (e+1)])=dQ t++[e]/\gy (t++[.aF e (e+1)]):=by
   refine⟨?_,h.append (gy.one ⟨by lia,by lia⟩)⟩;rw[fX,kK];show _++run e (e+1-e).toNat=_;rw[show (e+1-e).toNat=1 by lia];rfl
  rcases l6 t with rfl|⟨d,l,rfl⟩
  ·exact c
  ·rw[kj]at h c ⊢;rw[lN]
   cases l with
   | win n=>exact c
   | aF a b =>
    show dQ (if b=e then (d++[aY.aF a b]).dropLast++[.aF a (e+1)] else (d++[aY.aF a b])++[.aF e (e+1)])=_/\gy (if b=e then (d++[aY.aF a b]).dropLast++[.aF a (e+1)] else (d++[aY.aF a b])++[.aF e (e+1)]);by_cases g:b=e
    ·subst g;obtain⟨i,d⟩:0<=a/\a<b:=h (.aF a b) (by simp);rw[if_pos rfl,List.dropLast_concat];refine⟨?_,gy.append (λd f=>h d (n9 _ f)) (gy.one ⟨i,by lia⟩)⟩;rw[fX,fX,kK,kK,ko];congr 1;show run a (b+1-a).toNat=run a (b-a).toNat++[b];rw[show (b+1-a).toNat=(b-a).toNat+1 by lia,jD];congr 2;lia
    ·rw[if_neg g];exact c
def mL(a:Wp):dQ (aI a)=a/\gy (aI a):=by
 let z:∀ (a:Wp) (t:List aY),gy t->dQ (a.foldl bK t)=dQ t++a/\gy (a.foldl bK t):=by
  intro a
  induction a with
  | nil=>intro t h;exact⟨by simp,h⟩
  | cons e a d =>
   intro t h;let⟨b,c⟩:=LV t e h;let⟨e,f⟩:=d _ c;exact⟨by rw[jV,e,b,ko];rfl,f⟩
 let⟨b,c⟩:=z a [] (λi d=>by cases d);exact⟨by unfold aI;rw[b];rfl,c⟩
def nV(r:Row):dQ (cX r)=bC r:=by
 unfold dQ cX bC;rw[List.flatMap_map];rfl
def uF{r:Row}(h:jF r):gy (cX r):=by
 intro c a;unfold cX at a;let⟨p,b,rfl⟩:=List.mem_map.mp a;exact h p b
def LW{a:Wp}(h:∀ x∈a,0<=x):cX (cL a)=aI a:=by
 let z:∀ (a:Wp) (t:Row),(∀ x∈a,0<=x)->cX (a.foldl (λt n=>jj t n (n+1)) t)=a.foldl bK (cX t):=by
  intro a
  induction a with
  | nil=>intro t _;rfl
  | cons n a c =>
   intro t h;rw[jV,jV,c _ λx c=>h x (kY _ c)];congr 1;let c:=h n (by simp);unfold jj bK;rw[if_neg ∅];rcases l6 t with rfl|⟨b,l,rfl⟩
   ·rfl
   ·rw[kj,lN];let e:(cX (b++[l])).getLast?=⇑(.aF l.1 l.2):=by unfold cX;rw[gP];exact lN
    rw[e];show cX (if l.2=n then (b++[l]).dropLast++[(l.1,n+1)] else b++[l]++[(n,n+1)])=if l.2=n then (cX (b++[l])).dropLast++[.aF l.1 (n+1)] else cX (b++[l])++[.aF n (n+1)];by_cases c:l.2=n
    ·rw[if_pos c,if_pos c,List.dropLast_concat];unfold cX;rw[gP,gP];simp
    ·rw[if_neg c,if_neg c];unfold cX;rw[gP];rfl
 exact z a [] h
abbrev mU:=aY × Row × Int × Int
def dI(a:Y2)(b:aY):Row:=oX (λn=>cL (a n)) b
def ck(a:Y2):Int->List aY->List mU
 | _,[]=>[]
 | f,it::r=>(it,dI a it,f,f+je (dI a it))::ck a (f+je (dI a it)) r
theorem uG(a:Y2)(c:List aY):∀ (b:List aY) (f:Int),ck a f (b++c)=ck a f b++ck a (f+je (bI a b)) c
 | [],f=>by simp[ck,bI,je]
 | it::b,f=>by
  rw[List.cons_append,ck,ck,uG a c b,List.cons_append];let e:bI a (it::b)=dI a it++bI a b:=by unfold bI;rw[jb];rfl
  rw[e,yT,Int.add_assoc]
theorem Cb(b:Y2):∀ (a:List aY) (f:Int),↑(ck b f a)=↑a
 | [],_=>rfl
 | _::a,f=>by rw[ck,fE,fE,Cb b a]
def mO(N:Y1)(H:Hp)(v:V)(d:mU):Prop:=∃ (b a:Addr) (x:V),v=↥b/\H b=⇑(.tup [x,↥a,.int d.2.2.1,.int d.2.2.2])/\dP H x d.1/\bV H a d.2.1/\N a
theorem mO.same{N:Y1}{H a:Hp}{v:V}{d:mU}(s:aJ H a):mO N H v d->mO N a v d:=λ⟨b,c,x,e,h,i,r,n⟩=>⟨b,c,x,e,s _ _ h,i.same s,r.same s,n⟩
theorem mO.keep{N:Y1}{H c:Hp}{v:V}{d:mU}{q:Addr}{f:List V}(b:H q=⇑(.lst f))(g:∀ a,N a->a≠q)(k:cF q H c):mO N H v d->mO N c v d:=λ⟨a,e,x,i,h,j,r,n⟩=>⟨a,e,x,i,k a _ h (by
 intro z;rw[z,b]at h
 cases h),j.keep b k,r.keep b (g e n) k,n⟩
def vJ(H:Hp)(b:List (fR × V))(c:Y2)(d:List aY):Prop:=∀ n,aY.win n∈d->∃ a,cI b (Sum.inl n)=⇑↥a/\bV H a (cL (c n))
theorem vJ.same{H a:Hp}{b:List (fR × V)}{c:Y2}{d:List aY}(s:aJ H a)(h:vJ H b c d):vJ a b c d:=λn e=>by
 let⟨f,g,r⟩:=h n e;exact⟨f,g,r.same s⟩
def aD(p:Int)(d:mU):List aY:=if d.2.2.2<=p then [d.1] else if p<=d.2.2.1 then [] else cX (cD (kW 0 (p-d.2.2.1) 0 d.2.1))
def bD(p:Int)(d:mU):List aY:=if d.2.2.2<=p then [] else if p<=d.2.2.1 then [d.1] else cX (cD (kW (p-d.2.2.1) (d.2.2.2-d.2.2.1) 0 d.2.1))
def aE(a:Y2)(p:Int):Int->List Int->List Int
 | _,[]=>[]
 | f,e::r=>(if f+↑(bf a e)<=p then [e] else if p<=f then [] else (bf a e).take (p-f).toNat)++aE a p (f+↑(bf a e)) r
def bE(a:Y2)(p:Int):Int->List Int->List Int
 | _,[]=>[]
 | f,e::r=>(if f+↑(bf a e)<=p then [] else if p<=f then [e] else (bf a e).drop (p-f).toNat)++bE a p (f+↑(bf a e)) r
def cz(a:Y2)(e:Int)(r:Wp):aW a (e::r)=bf a e++aW a r:=by unfold aW;rw[jb]
def jK(a:Y2)(b c:Wp):aW a (b++c)=aW a b++aW a c:=by unfold aW;rw[List.flatMap_append]
theorem vK(a:Y2)(p:Int)(y:Wp):∀ (x:Wp) (f:Int),aE a p f (x++y)=aE a p f x++aE a p (f+↑(aW a x)) y
 | [],f=>by simp[aE,aW]
 | e::x,f=>by
  rw[List.cons_append,aE,aE,vK a p y x,ko,cz,dh,Int.add_assoc]
  push_cast
  rfl
theorem vL(a:Y2)(p:Int)(y:Wp):∀ (x:Wp) (f:Int),bE a p f (x++y)=bE a p f x++bE a p (f+↑(aW a x)) y
 | [],f=>by simp[bE,aW]
 | e::x,f=>by
  rw[List.cons_append,bE,bE,vL a p y x,ko,cz,dh,Int.add_assoc]
  push_cast
  rfl
def qN(a:Y2){e:Int}(h:0<=e):bf a e=[e]:=by unfold bf;rw[if_neg ∅]
theorem lX(b:Y2):∀ (n:Nat) (a:Int),0<=a->aW b (run a n)=run a n
 | 0,_,_=>rfl
 | n+1,a,h=>by rw[run,cz,qN b h,lX b n (a+1) ∅];rfl
theorem OO(b:Y2)(p:Int):∀ (n:Nat) (a f:Int),0<=a->aE b p f (run a n)=(run a n).take (p-f).toNat
 | 0,_,_,_=>by simp[run,aE]
 | n+1,a,f,h=>by
  rw[run,aE,OO b p n (a+1) _ ∅,qN b h];show (if f+1<=p then [a] else if p<=f then [] else _)++(run (a+1) n).take (p-(f+1)).toNat=_;by_cases c:f+1<=p
  ·rw[if_pos c,show (p-f).toNat=(p-(f+1)).toNat+1 by lia];rfl
  ·rw[if_neg c,if_pos ∅,show (p-f).toNat=0 by lia,show (p-(f+1)).toNat=0 by lia];rfl
theorem OP(b:Y2)(p:Int):∀ (n:Nat) (a f:Int),0<=a->bE b p f (run a n)=(run a n).drop (p-f).toNat
 | 0,_,_,_=>by simp[run,bE]
 | n+1,a,f,h=>by
  rw[run,bE,OP b p n (a+1) _ ∅,qN b h];show (if f+1<=p then [] else if p<=f then [a] else _)++(run (a+1) n).drop (p-(f+1)).toNat=_;by_cases c:f+1<=p
  ·rw[if_pos c,show (p-f).toNat=(p-(f+1)).toNat+1 by lia];rfl
  ·rw[if_neg c,if_pos ∅,show (p-f).toNat=0 by lia,show (p-(f+1)).toNat=0 by lia];rfl
def OQ(a:Y2){n:Int}(h:0<=n):bf a (-1-n)=a n:=by
 unfold bf;rw[if_pos ∅,show -1-(-1-n)=n by lia]
def uH(d:Y2)(c:aY)(h:lI c):∀ q∈dI d c,q.1<=q.2:=by
 cases c with
 | win n=>exact kB _
 | aF a b =>
  intro q e;have:q=(a,b):=by simpa [dI,oX] using e
  subst this;have:=h.2;show a<=b;lia
def j7(c:Y2)(d:aY)(h:lI d):bC (dI c d)=aW c (gh d):=by
 cases d with
 | win n =>
  show bC (cL (c n))=aW c [-1-n];rw[eT,cz,OQ c h];simp[aW]
 | aF a b =>
  show bC [(a,b)]=aW c (run a (b-a).toNat);rw[fC,lX c _ _ h.1];rfl
def kM(b:Y2)(a:aY)(h:lI a):je (dI b a)=↑(aW b (gh a)):=by
 rw[← j7 b a h,qE _ (uH b a h)]
def oT(c:Y2)(p f:Int)(d:aY)(h:lI d):dQ (aD p (d,dI c d,f,f+je (dI c d)))=aE c p f (gh d):=by
 let tt:=kM c d h
 let e:dQ (cX (cD (kW 0 (p-f) 0 (dI c d))))=(aW c (gh d)).take (p-f).toNat:=by
  rw[nV,oz _ _ _ (uH c d h),j7 c d h];rfl
 unfold aD;show dQ (if f+je (dI c d)<=p then [d] else if p<=f then [] else cX (cD (kW 0 (p-f) 0 (dI c d))))=_;rw[tt]
 cases d with
 | win n =>
  let g:aW c (gh (.win n))=bf c (-1-n):=by show aW c [-1-n]=_;rw[cz];simp[aW]
  rw[g]at e ⊢;show _=aE c p f [-1-n];rw[aE,aE,gV];split
  ·rfl
  ·split
   ·rfl
   ·exact e
 | aF a b =>
  let g:aW c (gh (.aF a b))=run a (b-a).toNat:=lX c _ _ h.1;rw[g]at e ⊢;show _=aE c p f (run a (b-a).toNat);rw[OO c p _ _ _ h.1];let g:=dG a (b-a).toNat;split
  ·rename_i i;rw[kK,pO ∅];rfl
  ·split
   ·rename_i i;rw[show (p-f).toNat=0 by lia];rfl
   ·exact e
def oY(c:Y2)(p f:Int)(d:aY)(h:lI d):dQ (bD p (d,dI c d,f,f+je (dI c d)))=bE c p f (gh d):=by
 let tt:=kM c d h
 let e:dQ (cX (cD (kW (p-f) (f+je (dI c d)-f) 0 (dI c d))))=(aW c (gh d)).drop (p-f).toNat:=by
  rw[nV,oz _ _ _ (uH c d h),j7 c d h,pO (by rw[tt];lia)]
 unfold bD;show dQ (if f+je (dI c d)<=p then [] else if p<=f then [d] else cX (cD (kW (p-f) (f+je (dI c d)-f) 0 (dI c d))))=_;let i:(f+je (dI c d)<=p)=(f+↑(aW c (gh d))<=p):=by rw[tt]
 simp only[i]
 cases d with
 | win n =>
  let g:aW c (gh (.win n))=bf c (-1-n):=by show aW c [-1-n]=_;rw[cz];simp[aW]
  rw[g]at e ⊢;show _=bE c p f [-1-n];rw[bE,bE,gV];split
  ·rfl
  ·split
   ·rfl
   ·exact e
 | aF a b =>
  let g:aW c (gh (.aF a b))=run a (b-a).toNat:=lX c _ _ h.1;rw[g]at e ⊢;show _=bE c p f (run a (b-a).toNat);rw[OP c p _ _ _ h.1];let g:=dG a (b-a).toNat;split
  ·rename_i j;rw[xm ∅];rfl
  ·split
   ·rename_i j;rw[kK,show (p-f).toNat=0 by lia];rfl
   ·exact e
theorem Fi(a:Y2)(p:Int):∀ (b:List aY) (f:Int),gy b->dQ ((ck a f b).flatMap (aD p))=aE a p f (dQ b)
 | [],f,_=>rfl
 | it::r,f,h=>by
  let c:=h it (by simp);rw[ck,jb,fX,oT a p f it c,Fi a p r _ λi d=>h i (kY _ d)];let e:dQ (it::r)=gh it++dQ r:=by unfold dQ;rw[jb]
  rw[e,vK,kM a it c]
theorem Cc(a:Y2)(p:Int):∀ (b:List aY) (f:Int),gy b->dQ ((ck a f b).flatMap (bD p))=bE a p f (dQ b)
 | [],f,_=>rfl
 | it::r,f,h=>by
  let c:=h it (by simp);rw[ck,jb,fX,oY a p f it c,Cc a p r _ λi d=>h i (kY _ d)];let e:dQ (it::r)=gh it++dQ r:=by unfold dQ;rw[jb]
  rw[e,vL,kM a it c]
def Sz(a:Y2)(b:List aY):Prop:=∀ n,aY.win n∈b->∀ x∈a n,0<=x
def SA(d:Y2)(c:aY)(h:lI c)(g:∀ n,c=.win n->∀ x∈d n,0<=x):lH (dI d c):=by
 cases c with
 | win n=>exact (BQ (g n rfl)).nn
 | aF a b =>
  intro q e;have:q=(a,b):=by simpa [dI,oX] using e
  subst this;exact⟨h.1,by have:=h.2;show a<=b;lia⟩
theorem xW(a:Y2):∀ (c:List aY) (f:Int),gy c->Sz a c->∀ d∈ck a f c,lI d.1/\lH d.2.1
 | [],_,_,_=>λd b=>by cases b
 | it::r,f,h,g=>by
  intro d b;rw[ck]at b;rcases List.mem_cons.mp b with rfl|z
  ·exact⟨h it (by simp),SA a it (h it (by simp)) λn e=>g n (by rw[e];simp)⟩
  ·exact xW a r _ (λi b=>h i (kY _ b)) (λn b=>g n (kY _ b)) d z
theorem zE{a b:Int}{r:Row}(h:lH r):gy (cX (cD (kW a b 0 r))):=uF (nP (zo a b r 0 h))
def o0{p:Int}{d:mU}(h:lI d.1)(g:lH d.2.1):gy (aD p d):=by
 unfold aD;split
 ·exact gy.one h
 ·split
  ·exact λi a=>by cases a
  ·exact zE g
def o4{p:Int}{d:mU}(h:lI d.1)(g:lH d.2.1):gy (bD p d):=by
 unfold bD;split
 ·exact λi a=>by cases a
 ·split
  ·exact gy.one h
  ·exact zE g
theorem uI{g:mU->List aY}{l:List mU}(h:∀ d∈l,gy (g d)):gy (l.flatMap g):=λb a=>by
 let⟨d,c,a⟩:=List.mem_flatMap.mp a;exact h d c b a
def xX(r:Row):↑(cX r)=↑r:=by unfold cX;rw[cC]
def qO(a b:Int)(r:Row):↑(cX (cD (kW a b 0 r)))<=↑r:=by
 rw[xX];exact iC (iU _) (j4 a b r 0)
theorem zF(a:Y2){g:mU->List aY}(c:∀ d,↑(g d)<=↑d.2.1+1):∀ (b:List aY) (f:Int),↑((ck a f b).flatMap g)<=↑(bI a b)+↑b
 | [],_=>by simp[ck]
 | it::r,f=>by
  rw[ck,jb,dh];let e:=c (it,dI a it,f,f+je (dI a it));let i:=zF a c r (f+je (dI a it));let h:bI a (it::r)=dI a it++bI a r:=by unfold bI;rw[jb];rfl
  rw[h,dh,fE];simp only at e;lia
def WY(p:Int)(d:mU):↑(aD p d)<=↑d.2.1+1:=by
 unfold aD;split
 ·simp
 ·split
  ·simp
  ·exact iC (qO _ _ _) ∅
def WZ(p:Int)(d:mU):↑(bD p d)<=↑d.2.1+1:=by
 unfold bD;split
 ·simp
 ·split
  ·simp
  ·exact iC (qO _ _ _) ∅
def iY{a b:Type}(g:a->List b)(l:List a)(i:Nat):↑((l.take i).flatMap g)<=↑(l.flatMap g):=by
 let e:l.flatMap g=(l.take i).flatMap g++(l.drop i).flatMap g:=by rw[← List.flatMap_append,List.take_append_drop]
 rw[e,dh];lia
def qP{a c:Type}(g:a->List c){l:List a}{i:Nat}{b:a}(h:l[i]?=⇑b):(l.take (i+1)).flatMap g=(l.take i).flatMap g++g b:=by
 rw[take_snoc h,List.flatMap_append];simp
def uJ(a:Y2){c:List aY}{b:aY}(h:b∈c):↑(dI a b)<=↑(bI a c):=by
 let⟨f,d,rfl⟩:=List.append_of_mem h;rw[ff];let e:bI a (b::d)=dI a b++bI a d:=by unfold bI;rw[jb];rfl
 rw[e,dh,dh];lia
def J2(A B:Addr)(H b:Hp):Prop:=∀ a o,H a=⇑o->a≠A->a≠B->b a=⇑o
theorem J2.tup{A B:Addr}{H c:Hp}{d e:List V}(k:J2 A B H c)(f:H A=⇑(.lst d))(g:H B=⇑(.lst e)):∀ a b,H a=⇑(.tup b)->c a=⇑(.tup b):=λa b h=>k a _ h (λz=>by
 rw[z,f]at h;cases h) (λz=>by
 rw[z,g]at h
 cases h)
theorem dP.tups{H b:Hp}{v:V}{c:aY}(t:∀ a d,H a=⇑(.tup d)->b a=⇑(.tup d)):dP H v c->dP b v c:=λ⟨a,e,h⟩=>⟨a,e,t a _ h⟩
theorem mO.UL{N:Y1}{A B:Addr}{H f:Hp}{v:V}{g:mU}{i j:List V}(b:H A=⇑(.lst i))(c:H B=⇑(.lst j))(n:∀ a,N a->a≠A/\a≠B)(k:J2 A B H f):mO N H v g->mO N f v g:=λ⟨a,d,x,l,h,m,⟨o,p,q⟩,e⟩ =>
 ⟨a,d,x,l,k.tup b c _ _ h,m.tups (k.tup b c),⟨o,k _ _ p (n d e).1 (n d e).2,q.tups (k.tup b c)⟩,e⟩
def cG.app{b c:Type}{a:b->c->Prop}{d e:List b}{f g:List c}(h:cG a d f)(t:cG a e g):cG a (d++e) (f++g):=by
 induction h with
 | nil=>exact t
 | cons i _ j=>exact .cons i j
structure lJ(H1:Hp)(A B:Addr)(l1 l2:List aY)(H2:Hp):Prop where
 a:∃ vs,H2 A=⇑(.lst vs)/\cG (dP H2) vs l1
 b:∃ vs,H2 B=⇑(.lst vs)/\cG (dP H2) vs l2
 k:J2 A B H1 H2
def lJ.same{c d e:Hp}{A B:Addr}{f g:List aY}(p:lJ c A B f g d)(s:aJ d e):lJ c A B f g e:=by
 let⟨⟨b,h,i⟩,⟨j,l,m⟩,k⟩:=p;exact⟨⟨b,s _ _ h,i.mono λ_ _ h=>h.same s⟩,⟨j,s _ _ l,m.mono λ_ _ h=>h.same s⟩,λa o b n m=>s _ _ (k a o b n m)⟩
def lJ.J3{f c:Hp}{A B:Addr}{g h j:List aY}{d e:List V}(p:lJ f A B g h c)(n:A≠B)(l:c A=⇑(.lst d))(m:cG (dP c) e j):lJ f A B (g++j) h (aL c A (.lst (d++e))):=by
 let⟨⟨i,b,o⟩,⟨q,r,s⟩,k⟩:=p;rw[l]at b;cases b;let kp:∀ v i,dP c v i->dP (aL c A (.lst (d++e))) v i:=λv i b=>b.keep l (aG A _ _);refine⟨⟨_,af,(o.mono kp).app (m.mono kp)⟩,⟨q,by rw[aK n.symm];exact r,s.mono kp⟩,λa o i b q=>?_⟩;rw[aK b];exact k a o i b q
def lJ.J4{f c:Hp}{A B:Addr}{g h j:List aY}{d e:List V}(p:lJ f A B g h c)(n:A≠B)(l:c B=⇑(.lst d))(m:cG (dP c) e j):lJ f A B g (h++j) (aL c B (.lst (d++e))):=by
 let⟨⟨o,q,r⟩,⟨i,b,s⟩,k⟩:=p;rw[l]at b;cases b;let kp:∀ v i,dP c v i->dP (aL c B (.lst (d++e))) v i:=λv i b=>b.keep l (aG B _ _);refine⟨⟨o,by rw[aK n];exact q,r.mono kp⟩,⟨_,af,(s.mono kp).app (m.mono kp)⟩,λa o i q b=>?_⟩;rw[aK b];exact k a o i q b
def nX{b:dB}{c:Y2}(j:gT b)(l:CO b)(m:mJ b c):∀ x:Int,0<=x->x<↑b->∀ y∈c x,0<=y:=by
 let⟨d,a,n⟩:=l
 let o:∀ (k:Nat) (x:Int),d x<k->0<=x->x<↑b->∀ y∈c x,0<=y:=by
  intro k
  induction k with
  | zero=>intro x h;lia
  | succ k k =>
   intro x e f g y a;let g:b[x.toNat]?=⇑b[x.toNat]:=mS ∅;rw[m x _ f g]at a;unfold aW at a;let⟨e,p,a⟩:=List.mem_flatMap.mp a;unfold bf at a;by_cases h:e<0
   ·rw[if_pos h]at a;let i:jS b x (-1-e):=⟨f,_,g,cH.mpr ⟨by lia,by rw[show -1-(-1-e)=e by lia];exact p⟩⟩;let⟨e,f⟩:=j.DZ i;have:=n _ _ i;exact k _ ∅ e f y a
   ·rw[if_neg h]at a;rw[List.mem_singleton.mp a];lia
 exact λx=>o (d x+1) x (Nat.lt_succ_self _)
def qQ{b:dB}{s n:Int}{a:Wp}(c:0<=s)(d:b[s.toNat]?=⇑a)(h:aY.win n∈aI a):jS b s n:=by
 exists c,a,d;rw[← iV];unfold fO;rw[List.mem_filterMap];exact⟨.win n,h,1⟩
structure oF(H:Hp)(r:Addr)(rows:dB)(sh:Y2):Prop where
 at_:iu H r (rows.map aI)
 len:↑rows<=1000
 ents:∀ es∈rows,↑es<=1000
 snd:gT rows
 rk:CO rows
 OR:mJ rows sh
 bd:∀ x:Int,0<=x->x<↑rows->↑(sh x)<=10000
theorem oF.same{H a:Hp}{r:Addr}{b:dB}{c:Y2}(s:aJ H a)(h:oF H r b c):oF a r b c:={ h with at_:=h.at_.same s }
structure o8(H:Hp)(r:Addr)(rows:dB)(sh:Y2)(s:Int)(es:Wp)(xC:List V)(b:Addr):Prop where
 he:rows[s.toNat]?=⇑es
 hr:H r=⇑(.lst xC)
 ix:om xC s=⇑↥b
 it:b8 H ↥b (aI es)
 il:↑(aI es)<=1000
 rl:↑(bI sh (aI es))<=10000
 tt:je (cL (sh s))=↑(sh s)
 se:sh s=aW sh es
def oF.one{H:Hp}{r:Addr}{a:dB}{b:Y2}{s:Int}(h:oF H r a b)(f:0<=s)(j:s<↑a):∃ k d e,o8 H r a b s k d e:=by
 let c:a[s.toNat]?=⇑a[s.toNat]:=mS ∅;let⟨d,l,i⟩:=h.at_;let⟨n,m,g⟩:=i.get' (i:=s.toNat) (b:=aI a[s.toNat]) (by rw[fK,c];rfl);let⟨e,o,rfl,i,n⟩:=id g;let z:=cP m;rw[show ((s.toNat:Nat):Int)=s by lia]at z;let m:=qJ a[s.toNat] [];let i:=h.ents _ (lK c);let⟨n,o⟩:=zD b a[s.toNat];let i:=h.OR s _ f c;refine⟨_,d,e,c,l,z,g,?_,?_,?_,i⟩
 ·show ↑(a[s.toNat].foldl bK [])<=_;simp only[pR]at m;lia
 ·let q:=sV b (aI a[s.toNat]) o;rw[n,← i]at q;have:=h.bd s f j;lia
 ·rw[← qE _ (kB _),eT]
def lY(a:Wp):↑(cL a)<=↑a:=by
 let z:=ED a [];simpa [cL] using z
def gi(b:Y2)(p:Int)(a c:Wp):Wp:=if c=[] then a else aE b p 0 a++c++bE b p 0 a
class inductive SD
 | mk (r f:Addr) (b:List aY) (d:List (fR × V)) (e:Y2) (N:Y1) (_:vs=[↥r,↥f]) (_:b8 H ↥r b) (_:H f=⇑(.dK d)) (_:vJ H d e b) (_:↑b<=100000) (_:(∀ h∈b,↑(dI e h)<=100000)) (_:(∀ n a,aY.win n∈b->cI d (Sum.inl n)=⇑↥a->N a)) (_:(∀ a,H a=none->N a)) (_ :
 ∀ (o:Addr) (g:List V) (c:Hp),c o=⇑(.lst g)->cG (mO N c) g (ck e 0 b)->aJ H c->H o=none->Q ↥o c)
theorem Fj:‹(2,31,["items","views"],SD)›:=λD=>by
 refine fm ["items","views","told","first","item","row","last"] D.Wu.F λdF A zn s H vs Q E hr _ h=>?_
 let⟨r,S,d,R,a,N,rfl,⟨r',T,f,G,I⟩,hS,hW,eG,U,W,X,k⟩:=h;cases f;exists _,#v[aX 2 (bJ ah),aX 3 az,eX PassesOwn.never rfl (cM (pv 0)) (bX 4) #v[aX 5 (aC D.Ws (wY D) hr #[4,1]),aX 6 (bx cT (pv 3) (_fG.uz D.Wj (D.T.nu _ D.Wj.m) (C5 D) hr #[5])),aT (dX n8 jt ju bT (pv 2) #[cZ #[4,5,3,6]]),aX 3 (pv 6)],aM (pv 2)]
 all_goals try dsimp only[aS,aH]
 refine⟨iy,λq o=>?_⟩;let s0:aJ H (aL H q (.lst [])):=ao o _;refine⟨Y,r,1,⟨_,bL.of (s0 _ _ G)⟩,eK (K:=bZ) (e:=r) (b:=T) (λi p g=>∃ (vs:List V) (y z B:Option V),p=[⇑↥r,⇑↥S,⇑↥q,⇑(.int (0+je (bI a (d.take i)))),y,z,B]/\g q=⇑(.lst vs)/\cG (mO (λc=>N c/\c≠q) g) vs (ck a 0 (d.take i))/\aJ H g) ⟨[],none,none,none,1,af,.nil,s0⟩ (by rintro i p g _ ⟨_,_,_,_,_,_,_,s⟩;exact bL.of (s _ _ G)) ?_ ?_⟩
 ·rintro i x p g hi ⟨vs,y,z,B,rfl,t,l,s⟩;let⟨e,C,J⟩:=I.get hi;let u:=lK C;let G:=l.len;rw[Cb,gm]at G;refine⟨Y,Y,x,e,S,R,λn=>cL (a n),1,J.same s,s _ _ hS,λn G=>(hW.same s) n (by rw[← G];exact u),λc G L v w3=>?_⟩
  let M:N c/\c≠q:=by
   rcases w3 with ⟨n,rfl,j⟩|m
   ·exists W n c u j;let⟨b,w,⟨G,F,_⟩⟩:=hW n u;rw[j]at w;cases w;exact aA F o
   ·exact⟨X c (aU s m),(aA t m).symm⟩
  refine⟨Y,Y,c,dI a e,1,L,iC (U e u) (by decide),λu m=>⟨Z,?_⟩⟩;let F:=m _ _ (v _ _ t);refine⟨Y,.inl ⟨1,_,bL.of F⟩,Y,Y,Y,Y,C2,λO j=>?_⟩;let w:=ao j (.tup [x,↥c,.int (0+je (bI a (d.take i))),.int (0+je (bI a (d.take i))+je (dI a e))]) _ _ F;refine⟨q,Z,w,aN ∅,?_⟩;refine⟨Y,_,⇑x,⇑↥c,⇑(.int (0+je (bI a (d.take i))+je (dI a e))),?_,af,?_,bP o (s.trans (v.trans (m.trans (ao j _)))) (aG q _ _)⟩
  ·let f:bI a (d.take (i+1))=bI a (d.take i)++dI a e:=by rw[take_snoc C,ff,jm];rfl
   rw[f,yT,← Int.add_assoc];rfl
  ·let f:ck a 0 (d.take (i+1))=ck a 0 (d.take i)++[(e,dI a e,0+je (bI a (d.take i)),0+je (bI a (d.take i))+je (dI a e))]:=by rw[take_snoc C,uG];rfl
   rw[f];let a:O≠q:=(aA F j).symm;refine cG.snoc (l.mono λab ae h=>(((h.same v).same m).same (ao j _)).keep w (λc h=>h.2) (aG q _ _)) ⟨O,c,x,1,?_,?_,?_,M⟩
   ·rw[aK a,af]
   ·exact ((((J.same s).same v).same m).same (ao j _)).keep w (aG q _ _)
   ·exact (((L.same m).same (ao j _))).keep w M.2 (aG q _ _)
 ·rintro p g ⟨vs,y,z,B,rfl,t,l,s⟩;rw[I.len,gU]at l;exact⟨Y,k q vs g t (l.mono λab ae ⟨c,a,x,f,h,i,r,n⟩=>⟨c,a,x,f,h,i,r,n.1⟩) s o⟩
class inductive Ig
 | mk (r e o:Addr) (p:Int) (a c:List aY) (f:List (fR × V)) (b:Y2) (_:vs=[↥r,↥e,.int p,↥o]) (_:b8 H ↥r a) (_:H e=⇑(.dK f)) (_:vJ H f b a) (_:b8 H ↥o c) (_:gy a) (_:gy c) (_:Sz b a) (_:↑a<=50000) (_:↑(bI b a)<=50000) (_:c.length<=50000) (_ :
 ∀ (q:Addr) (d:Hp),b8 d ↥q (aI (aE b p 0 (dQ a)++dQ c++bE b p 0 (dQ a)))->aJ H d->H q=none->Q ↥q d)
theorem uK:‹(3,32,["items","views","place","others"],Ig)›:=λD=>by
 refine fm ["items","views","place","others","ahead","behind","item","row","first","last"] D.Wv.F λdF A zn s H vs Q E hr _ h=>?_
 let⟨ab,ae,ag,p,a,x,an,b,rfl,hI,hS,hW,hO,O,UG,nn,l1,l2,l3,ap⟩:=h;refine⟨_,#v[aX 4 (bJ ah),aX 5 (bJ ah),eX PassesOwn.never rfl (cM (aC D.Wu (Fj D) hr #[0,1])) (lg (n:=4) rfl (bS (bX 6) (bS (bX 7) (bS (bX 8) (bS (bX 9) gB))))) #v[bO (aV gC (pv 9) (pv 2) (bh _)) #v[aT (dX n8 jt ju bT (pv 4) #[6])] #v[bO (aV gC (pv 2) (pv 8) (bh _)) #v[aT (dX n8 jt ju bT (pv 5) #[6])] #v[rZ (i:=4) (by assumption) rfl (Or.inl rfl) (aC D.E4 (mK D) hr #[aC D.Wk (qM D) hr #[7,az,bx dD (pv 2) (pv 8)]]) vE,rZ (i:=5) (by assumption) rfl (Or.inl rfl) (aC D.E4 (mK D) hr #[aC D.Wk (qM D) hr #[7,bx dD (pv 2) (pv 8),bx dD (pv 9) (pv 8)]]) vE]]],aM (aC D.LG (iO D) hr #[bx ja (bx ja (pv 4) (pv 3)) (pv 5)])],?_⟩
 all_goals try dsimp only[aS,aH]
 refine⟨iy,λA R=>⟨iy,λB x=>?_⟩⟩;let sA:aJ H (aL H A (.lst [])):=ao R _;let n:aJ _ (aL (aL H A (.lst [])) B (.lst [])):=ao x _;let s0:=sA.trans n;let w:A≠B:=aA af x;let MN:=aU sA x;refine⟨Y,Y,ab,ae,a,an,b,λi=>i≠A/\i≠B,1,hI.same s0,s0 _ _ hS,hW.same s0,by lia,(λf S=>by have:=uJ b S;lia),?_,?_,λD dv H1 hD Q6 T _=>?_⟩
 ·intro d i f g;let⟨j,e,k,c,_⟩:=hW d f;rw[g]at e;cases e;exact⟨aA c R,aA c MN⟩
 ·intro i c;exact⟨(aA (n _ _ af) c).symm,(aA af c).symm⟩
 let ai:=T _ _ (n _ _ (af (H:=H) (a:=A) (o:=.lst [])));let ak:=T _ _ (af (H:=aL H A (.lst [])) (a:=B) (o:=.lst []))
 let x:D≠A/\D≠B:=by
  rename_i c;exact⟨(aA (n _ _ af) c).symm,(aA af c).symm⟩
 let n:=zF b (WY p) a 0;let n:=zF b (WZ p) a 0;let C:=xW b a 0 O nn;refine⟨D,1,⟨_,bL.of hD⟩,eK (K:=bZ) (e:=D) (b:=dv) (λj F k=>∃ U W X u4:Option V,F=[⇑↥ab,⇑↥ae,⇑(.int p),⇑↥ag,⇑↥A,⇑↥B,U,W,X,u4]/\lJ H1 A B (((ck b 0 a).take j).flatMap (aD p)) (((ck b 0 a).take j).flatMap (bD p)) k) ⟨none,none,none,none,1,⟨_,ai,.nil⟩,⟨_,ak,.nil⟩,λ_ _ e _ _=>e⟩ (by rintro j F k _ ⟨_,_,_,_,_,pv⟩;exact bL.of (pv.k _ _ hD x.1 x.2)) ?_ ?_⟩
 ·rintro j aO F k S ⟨U,W,X,u4,rfl,pv⟩;let⟨m,ed,n⟩:=Q6.get S;let aq:=n.UL ai ak (λi h=>h) pv.k;let⟨i,ra,xi,rfl,ar,am,Yi,au⟩:=aq;let G:=qP (aD p) ed;let I:=qP (bD p) ed;let n:=iY (aD p) (ck b 0 a) j;let n:=iY (bD p) (ck b 0 a) j;let av:=iY (aD p) (ck b 0 a) (j+1);let aw:=iY (bD p) (ck b 0 a) (j+1);let⟨q,r,J⟩:=pv.a;let⟨v2,t,L⟩:=pv.b;let z1:=J.len;let z2:=L.len;let⟨f,c,d,g⟩:=m
  let n:↑c<=50000:=by
   let z:=lK ed
   have:∃ n∈a,c=dI b n:=by
    let u:∀ (a:List aY) (o:Int),(f,c,d,g)∈ck b o a->∃ n∈a,c=dI b n:=by
     intro a
     induction a with
     | nil=>intro o h;cases h
     | cons n x y =>
      intro o h;rw[ck]at h;rcases List.mem_cons.mp h with e|e
      ·cases e;exact⟨f,by simp,1⟩
      ·let⟨n,v,l⟩:=y _ e;exact⟨n,kY _ v,l⟩
    exact u a 0 z
   let⟨n,v,rfl⟩:=this;have:=uJ b v;lia
  exists i,Y,dO.of ar,1,E,1,E,1,E,1,Z;refine⟨Y,Y,Z,Y,dM (λx=>?_) (λx=>?_)⟩
  ·let n:g<=p:=of_decide_eq_true x;refine⟨Y,.inl ⟨1,_,bL.of r⟩,Y,A,Z,r,aN ∅,?_⟩;exists Q,Y;rw[G,I];let l:aD p (f,c,d,g)=[f]:=by unfold aD;rw[if_pos n]
   let u:bD p (f,c,d,g)=[]:=by unfold bD;rw[if_pos n]
   rw[l,u,gV];exact pv.J3 w r (.cons am .nil)
  ·let n:¬ g<=p:=λz=>x (decide_eq_true z);refine⟨Y,Y,Z,Y,dM (λo=>?_) (λo=>?_)⟩
   ·let x:p<=d:=of_decide_eq_true o;refine⟨Y,.inl ⟨1,_,bL.of t⟩,Y,B,Z,t,aN ∅,?_⟩;exists Q,Y;rw[G,I];let l:aD p (f,c,d,g)=[]:=by unfold aD;rw[if_neg n,if_pos x]
    let u:bD p (f,c,d,g)=[f]:=by unfold bD;rw[if_neg n,if_pos x]
    rw[l,u,gV];exact pv.J4 w t (.cons am .nil)
   ·let x:¬ p<=d:=λz=>o (decide_eq_true z);have l:aD p (f,c,d,g)=cX (cD (kW 0 (p-d) 0 c)):=by unfold aD;rw[if_neg n,if_neg x]
    let u:bD p (f,c,d,g)=cX (cD (kW (p-d) (g-d) 0 c)):=by unfold bD;rw[if_neg n,if_neg x]
    rw[G,l,dh]at av;rw[I,u,dh]at aw;refine⟨Y,Y,Y,Y,Z,ra,c,0,p-d,1,Yi,by lia,λf x n M z=>⟨f,Y,n,iC (j4 _ _ _ _) ∅,λq2 H4 f N n=>?_⟩⟩;let⟨n,v,e3,h3,y⟩:=f;cases e3;let z3:=y.len;let f:=N _ _ (M _ _ r);refine⟨A,q2,Z,f,h3,gn (aN ∅),?_⟩;let ax:=((pv.same M).same N).J3 w f y;let n:bV (aL H4 A (.lst (q++v))) ra c:=((Yi.same M).same N).keep f au.1 (aG A _ _);let aB:(aL H4 A (.lst (q++v))) B=⇑(.lst v2):=by rw[aK w.symm];exact N _ _ (M _ _ t)
    refine⟨Y,Y,Y,Y,Z,Y,Y,Z,ra,c,p-d,g-d,1,n,by lia,λc f d s6 g=>⟨c,Y,d,iC (j4 _ _ _ _) ∅,λq4 d c s7 f=>?_⟩⟩;let⟨d,f,e4,h4,t4⟩:=c;cases e4;let c:=t4.len;let c:=s7 _ _ (s6 _ _ aB);refine⟨B,q4,Z,c,h4,gn (aN ∅),?_⟩;exists Q,Y;rw[G,I,l,u];exact ((ax.same s6).same s7).J4 w c t4
 ·rintro F k ⟨U,W,X,u4,rfl,pv⟩;let c:=Q6.len;rw[c,gU]at pv;let⟨q,r,J⟩:=pv.a;let⟨v2,t,L⟩:=pv.b;let z1:=J.len;let z2:=L.len;let d:aJ H k:=λi c e=>pv.k i c (T _ _ (s0 _ _ e)) (aA e R) (aA e MN);let⟨c,v,e3,h3,y⟩:=hO.same d;cases e3;have z3:=y.len;refine⟨Y,Y,A,ag,Z,r,h3,gn (aN ∅),λc e=>?_⟩;have f:aJ k (aL k c (.lst (q++v))):=ao e _;refine⟨Y,c,B,Z,af,f _ _ t,gn (aN (by rw[dh];lia)),λo e=>?_⟩;have g:aJ _ (aL (aL k c (.lst (q++v))) o (.lst (q++v++v2))):=ao e _;have e:=f.trans g;refine⟨o,Y,⟨o,Y,af,((J.app y).app L).mono λv j h=>h.same e⟩,by rw[dh,dh];lia,λu g f i j=>?_⟩;have k:gy ((ck b 0 a).flatMap (aD p)):=uI λm c=>o0 (C m c).1 (C m c).2;have l:gy ((ck b 0 a).flatMap (bD p)):=uI λm c=>o4 (C m c).1 (C m c).2;rw[kL _ ((k.append UG).append l),fX,fX,Fi b p a 0 O,Cc b p a 0 O]at f;exact ap u g f (d.trans (e.trans i)) (aU (d.trans e) j)
class inductive wZ
 | mk (r o:Addr) (b:dB) (s p:Int) (a:List aY) (c:Y2) (_:vs=[↥r,.int s,.int p,↥o]) (_:oF H r b c) (_:0<=s) (_:s<↑b) (_:b8 H ↥o a) (_:gy a) (_:↑a<=10000) (_:0<=p/\p<=↑(c s)) (_:(∀ (e:Wp) (q:Addr) (d:Hp),b[s.toNat]?=⇑e->b8 d ↥q (aI (gi c p e (dQ a)))->aJ H d->H q=none->Q ↥q d))
def OS{c:List aY}(h:gy c):dQ c=[]↔c=[]:=by
 refine⟨λe=>?_,λe=>by rw[e];rfl⟩
 cases c with
 | nil=>rfl
 | cons it r =>
  let f:dQ (it::r)=gh it++dQ r:=by unfold dQ;rw[jb]
  rw[f]at e;let d:=(List.append_eq_nil_iff.mp e).1
  cases it with
  | win n=>cases d
  | aF a b =>
   let e:a<b:=(h (.aF a b) (by simp)).2;have:=dG a (b-a).toNat;let e:run a (b-a).toNat=[]:=d;rw[e]at this;simp only[pR]at this;lia
theorem oG:‹(4,33,["rows","sheet","place","items"],wZ)›:=λD=>by
 specialize fm ["rows","sheet","place","items","views"] D.Sb.F;let⟨r,I,J,s,p,M,g,rfl,R,e,i,N,u,T,n,v⟩:=h;let w:=gR hr;refine⟨_,#v[aX 4 (aC D.OB (jJ D) hr #[0,bJ #[1]]),aT (aC D.Yd (iz D) hr #[gu w (pv 4) (pv 1),2,2]),bO (kZ (jd (pv 3) (λ_=>rfl))) #v[aM (aC D.LG (iO D) hr #[aP bH (pv 0) (pv 1)])] bg,aM (aC D.Wv (uK D) hr #[aP bH (pv 0) (pv 1),4,2,3])],?_⟩
 all_goals try dsimp only[aS,aH]
 refine⟨Y,Y,kH,λL U=>?_⟩;let w:aJ H (aL H L (.lst [.int s])):=ao U _;refine⟨r,L,J,[s],g,1,R.at_.same w,af,by simp,R.len,R.ents,R.snd,R.rk,(λx a=>by rw[List.mem_singleton.mp a];exact⟨e,i⟩),R.OR,R.bd,λS W U H2 x y X J j L ab=>?_⟩;let B:=J s (by simp);let⟨J,U,Ra⟩:=y s B;let z:=gW.k (k:=Sum.inl s) x;rw[U]at z;let d:=w.trans L;let w:=R.bd s e i;let w:=lY (g s);let⟨b,w,L,O⟩:=(R.same d).one e i;refine⟨Y,Y,S,Y,z,Y,Y,J,cL (g s),p,p,1,Ra,by lia,⟨n.1,Int.le_refl _,by rw[O.tt];exact n.2⟩,λn c=>?_⟩
 ·let⟨n,w,C,a⟩:=(R.same (d.trans c)).one e i;let ee:b=n:=pQ (O.he.symm.trans a.he);subst ee;let F:=N.same (d.trans c);let⟨i,k,eo,ho,to⟩:=id F;cases eo;exists Y,!k.isEmpty,.inl ⟨_,bL.of ho,1⟩;let G:=to.len
  cases M with
  | nil =>
   have:k=[]:=List.eq_nil_of_length_eq_zero (by simpa using G);subst this;refine iF ?_;refine⟨Y,Y,r,Q,V,bL.of a.hr,a.ix,C,aI b,1,a.it,iC a.il (by decide),λq l f m o=>?_⟩;refine v b q l O.he ?_ (d.trans (c.trans m)) (aU (d.trans c) o);let⟨i,t⟩:=mL b;rw[kL _ t,i]at f;exact f
  | cons it r0 =>
   have:(!k.isEmpty)=true:=by
    cases k with
    | nil=>simp at G
    | cons _ _=>rfl
   rw[this];refine gp ?_;refine⟨Y,Y,r,Q,V,bL.of a.hr,a.ix,Y,Y,Y,C,S,I,p,aI b,it::r0,W,g,1,a.it,c _ _ x,λn j=>?_,F,(mL b).2,u,λn j=>?_,iC a.il (by decide),iC a.rl (by decide),iC T (by decide),λq l f m o=>?_⟩
   ·let a:=qQ e O.he j;let⟨i,g⟩:=List.getElem?_of_mem B;let⟨k,t,R2⟩:=y n (xq (X.dn i s g n a));exact⟨k,t,R2.same c⟩
   ·let a:=qQ e O.he j;let⟨e,g⟩:=R.snd.DZ a;exact nX R.snd R.rk R.OR n e g
   ·refine v b q l O.he ?_ (d.trans (c.trans m)) (aU (d.trans c) o);rw[(mL b).1]at f;unfold gi;rw[if_neg (λz=>by cases (OS u).mp z)];exact f
def kD(a b:Int)(d:mU):List aY:=if d.2.2.2<=a\/b<=d.2.2.1 then [d.1] else if a<=d.2.2.1/\d.2.2.2<=b then [] else cX (cD (kW 0 (a-d.2.2.1) 0 d.2.1++kW (b-d.2.2.1) (d.2.2.2-d.2.2.1) 0 d.2.1))
def tD(a b:Int)(d:mU):List aY:=if d.2.2.2<=a\/b<=d.2.2.1 then [] else if a<=d.2.2.1/\d.2.2.2<=b then [d.1] else cX (cD (kW (a-d.2.2.1) (b-d.2.2.1) 0 d.2.1))
def J5(a:Y2)(b c f e:Int):Wp:=if f+↑(bf a e)<=b\/c<=f then [e] else if b<=f/\f+↑(bf a e)<=c then [] else (bf a e).take (b-f).toNat++(bf a e).drop (c-f).toNat
def MP(a:Y2)(b c f e:Int):Wp:=if f+↑(bf a e)<=b\/c<=f then [] else if b<=f/\f+↑(bf a e)<=c then [e] else ((bf a e).take (c-f).toNat).drop (b-f).toNat
def kE(a:Y2)(b c:Int):Int->List Int->List Int
 | _,[]=>[]
 | f,e::r=>J5 a b c f e++kE a b c (f+↑(bf a e)) r
def tE(a:Y2)(b c:Int):Int->List Int->List Int
 | _,[]=>[]
 | f,e::r=>MP a b c f e++tE a b c (f+↑(bf a e)) r
theorem vM(a:Y2)(b c:Int)(y:Wp):∀ (x:Wp) (f:Int),kE a b c f (x++y)=kE a b c f x++kE a b c (f+↑(aW a x)) y
 | [],f=>by simp[kE,aW]
 | e::x,f=>by
  rw[List.cons_append,kE,kE,vM a b c y x,ko,cz,dh,Int.add_assoc]
  push_cast
  rfl
theorem vN(a:Y2)(b c:Int)(y:Wp):∀ (x:Wp) (f:Int),tE a b c f (x++y)=tE a b c f x++tE a b c (f+↑(aW a x)) y
 | [],f=>by simp[tE,aW]
 | e::x,f=>by
  rw[List.cons_append,tE,tE,vN a b c y x,ko,cz,dh,Int.add_assoc]
  push_cast
  rfl
def Yj{a f:Int}(h:f<a):(a-f).toNat=(a-(f+1)).toNat+1:=by lia
theorem LZ{a f:Int}(h:a<=f):(a-f).toNat=0:=Int.toNat_of_nonpos (Int.sub_nonpos_of_le h)
theorem W0{a f:Int}(h:a<=f):(a-(f+1)).toNat=0:=LZ (Int.le_trans h (Int.le_of_lt (Int.lt_succ f)))
theorem nS{a f:Int}(h:¬ f+1<=a):a<=f:=Int.not_lt.mp h
theorem OT(e:Y2){b c:Int}(g:b<c):∀ (n:Nat) (x f:Int),0<=x->kE e b c f (run x n)=(run x n).take (b-f).toNat++(run x n).drop (c-f).toNat
 | 0,_,_,_=>by simp[run,kE]
 | n+1,x,f,h=>by
  rw[run,kE,OT e g n (x+1) _ ∅];unfold J5;rw[qN e h];show (if f+1<=b\/c<=f then [x] else if b<=f/\f+1<=c then [] else _)++((run (x+1) n).take (b-(f+1)).toNat++(run (x+1) n).drop (c-(f+1)).toNat)=_;by_cases a:f+1<=b
  ·rw[if_pos (.inl a),Yj a,Yj (Int.lt_trans a g)];rfl
  ·by_cases d:c<=f
   ·rw[if_pos (.inr d),LZ (nS a),LZ d,W0 (nS a),W0 d];rfl
   ·rw[if_neg (λz=>z.elim a d),if_pos ⟨nS a,Int.not_le.mp d⟩,LZ (nS a),Yj (Int.not_le.mp d),W0 (nS a)];rfl
theorem OU(e:Y2){a b:Int}(g:a<b):∀ (n:Nat) (x f:Int),0<=x->tE e a b f (run x n)=((run x n).take (b-f).toNat).drop (a-f).toNat
 | 0,_,_,_=>by simp[run,tE]
 | n+1,x,f,h=>by
  rw[run,tE,OU e g n (x+1) _ ∅];unfold MP;rw[qN e h];show (if f+1<=a\/b<=f then [] else if a<=f/\f+1<=b then [x] else _)++((run (x+1) n).take (b-(f+1)).toNat).drop (a-(f+1)).toNat=_;by_cases c:f+1<=a
  ·rw[if_pos (.inl c),Yj c,Yj (Int.lt_trans c g)];rfl
  ·by_cases d:b<=f
   ·rw[if_pos (.inr d),LZ d,W0 d];simp
   ·rw[if_neg (λz=>z.elim c d),if_pos ⟨nS c,Int.not_le.mp d⟩,LZ (nS c),Yj (Int.not_le.mp d),W0 (nS c)];rfl
def L0{a b t:Int}{r:Row}(c:∀ p∈r,p.1<=p.2)(h:↑(bC r)<=t.toNat):bC (cD (kW 0 a 0 r++kW b t 0 r))=(bC r).take a.toNat++(bC r).drop b.toNat:=by
 rw[kC _ (VW (CL _ _ _ _) (CL _ _ _ _)),cQ,qG _ _ _ _ c,qG _ _ _ _ c];show ((bC r).take (a-0).toNat).drop 0++((bC r).take (t-0).toNat).drop (b-0).toNat=_;rw[Int.sub_zero,Int.sub_zero,Int.sub_zero,pO h];rfl
def pb(a:Y2){c d:Int}(j:c<d)(f:Int)(b:aY)(h:lI b):dQ (kD c d (b,dI a b,f,f+je (dI a b)))=kE a c d f (gh b):=by
 let tt:=kM a b h
 let g:dQ (cX (cD (kW 0 (c-f) 0 (dI a b)++kW (d-f) (f+je (dI a b)-f) 0 (dI a b))))=(aW a (gh b)).take (c-f).toNat++(aW a (gh b)).drop (d-f).toNat:=by
  rw[nV,L0 (uH a b h) (by rw[j7 a b h,tt];lia),j7 a b h]
 unfold kD;show dQ (if f+je (dI a b)<=c\/d<=f then [b] else if c<=f/\f+je (dI a b)<=d then [] else cX (cD (kW 0 (c-f) 0 (dI a b)++kW (d-f) (f+je (dI a b)-f) 0 (dI a b))))=_;let k:(f+je (dI a b)<=c\/d<=f)=(f+↑(aW a (gh b))<=c\/d<=f):=by rw[tt]
 let l:(c<=f/\f+je (dI a b)<=d)=(c<=f/\f+↑(aW a (gh b))<=d):=by rw[tt]
 simp only[k,l]
 cases b with
 | win n =>
  let i:aW a (gh (.win n))=bf a (-1-n):=by show aW a [-1-n]=_;rw[cz];simp[aW]
  rw[i]at g ⊢;show _=kE a c d f [-1-n];rw[kE,kE,gV];unfold J5;split
  ·rfl
  ·split
   ·rfl
   ·exact g
 | aF x y =>
  let i:aW a (gh (.aF x y))=run x (y-x).toNat:=lX a _ _ h.1;rw[i]at g ⊢;show _=kE a c d f (run x (y-x).toNat);rw[OT a j _ _ _ h.1];let i:=dG x (y-x).toNat;split
  ·rename_i e;rw[kK];rcases e with e|e
   ·rw[pO ∅,xm ∅,gV];rfl
   ·rw[LZ (Int.le_trans (Int.le_of_lt j) e),LZ e];rfl
  ·split
   ·rename_i e;rw[LZ e.1,xm ∅];rfl
   ·exact g
def pc(a:Y2){c d:Int}(j:c<d)(f:Int)(b:aY)(h:lI b):dQ (tD c d (b,dI a b,f,f+je (dI a b)))=tE a c d f (gh b):=by
 let tt:=kM a b h
 let g:dQ (cX (cD (kW (c-f) (d-f) 0 (dI a b))))=((aW a (gh b)).take (d-f).toNat).drop (c-f).toNat:=by
  rw[nV,oz _ _ _ (uH a b h),j7 a b h]
 unfold tD;show dQ (if f+je (dI a b)<=c\/d<=f then [] else if c<=f/\f+je (dI a b)<=d then [b] else cX (cD (kW (c-f) (d-f) 0 (dI a b))))=_;rw[tt]
 cases b with
 | win n =>
  let i:aW a (gh (.win n))=bf a (-1-n):=by show aW a [-1-n]=_;rw[cz];simp[aW]
  rw[i]at g ⊢;show _=tE a c d f [-1-n];rw[tE,tE,gV];unfold MP;split
  ·rfl
  ·split
   ·rfl
   ·exact g
 | aF x y =>
  let i:aW a (gh (.aF x y))=run x (y-x).toNat:=lX a _ _ h.1;rw[i]at g ⊢;show _=tE a c d f (run x (y-x).toNat);rw[OU a j _ _ _ h.1];let i:=dG x (y-x).toNat;split
  ·rename_i e;rcases e with e|e
   ·rw[xm (by rw[gm];lia)];rfl
   ·rw[LZ e];simp[dQ]
  ·split
   ·rename_i e;rw[kK,LZ e.1,pO ∅];rfl
   ·exact g
theorem Dd(a:Y2){b c:Int}(e:b<c):∀ (d:List aY) (f:Int),gy d->dQ ((ck a f d).flatMap (kD b c))=kE a b c f (dQ d)
 | [],f,_=>rfl
 | it::r,f,h=>by
  let g:=h it (by simp);rw[ck,jb,fX,pb a e f it g,Dd a e r _ λi j=>h i (kY _ j)];let i:dQ (it::r)=gh it++dQ r:=by unfold dQ;rw[jb]
  rw[i,vM,kM a it g]
theorem Fl(a:Y2){b c:Int}(e:b<c):∀ (d:List aY) (f:Int),gy d->dQ ((ck a f d).flatMap (tD b c))=tE a b c f (dQ d)
 | [],f,_=>rfl
 | it::r,f,h=>by
  let g:=h it (by simp);rw[ck,jb,fX,pc a e f it g,Fl a e r _ λi j=>h i (kY _ j)];let i:dQ (it::r)=gh it++dQ r:=by unfold dQ;rw[jb]
  rw[i,vN,kM a it g]
def UO{a b:Int}{d:mU}(h:lI d.1)(g:lH d.2.1):gy (kD a b d):=by
 unfold kD;split
 ·exact gy.one h
 ·split
  ·exact λi c=>by cases c
  ·exact uF (nP λp c=>(List.mem_append.mp c).elim (zo _ _ _ _ g p) (zo _ _ _ _ g p))
def pf{a b:Int}{d:mU}(h:lI d.1)(g:lH d.2.1):gy (tD a b d):=by
 unfold tD;split
 ·exact λi c=>by cases c
 ·split
  ·exact gy.one h
  ·exact zE g
def Ih(a b:Int)(d:mU):↑(kD a b d)<=↑d.2.1+↑d.2.1+1:=by
 unfold kD;split
 ·simp
 ·split
  ·simp
  ·rw[xX];refine iC (iU _) ?_;rw[dh];have:=j4 0 (a-d.2.2.1) d.2.1 0;have:=j4 (b-d.2.2.1) (d.2.2.2-d.2.2.1) d.2.1 0;lia
def OV(a b:Int)(d:mU):↑(tD a b d)<=↑d.2.1+↑d.2.1+1:=by
 unfold tD;split
 ·simp
 ·split
  ·simp
  ·exact iC (qO _ _ _) ∅
theorem lZ(a:Y2){g:mU->List aY}(c:∀ d,↑(g d)<=↑d.2.1+↑d.2.1+1):∀ (b:List aY) (f:Int),↑((ck a f b).flatMap g)<=↑(bI a b)+↑(bI a b)+↑b
 | [],_=>by simp[ck]
 | it::r,f=>by
  rw[ck,jb,dh];let e:=c (it,dI a it,f,f+je (dI a it));let i:=lZ a c r (f+je (dI a it));let h:bI a (it::r)=dI a it++bI a r:=by unfold bI;rw[jb];rfl
  rw[h,dh,fE];simp only at e;lia
theorem Fo(a:Y2)(b:aY)(c:Row)(d f:Int):∀ (g:List aY) (i:Int),(b,c,d,f)∈ck a i g->∃ j∈g,c=dI a j
 | [],_,h=>by cases h
 | i0::k,i,h=>by
  rw[ck]at h;rcases List.mem_cons.mp h with e|e
  ·cases e;exact⟨b,by simp,1⟩
  ·let⟨l,m,n⟩:=Fo a b c d f k _ e;exact⟨l,kY _ m,n⟩
theorem Cd(a:Y2):∀ (b:List aY) (f:Int) (d:mU),d∈ck a f b->d.1∈b
 | [],_,_,h=>by cases h
 | i0::c,f,d,h=>by
  rw[ck]at h;rcases List.mem_cons.mp h with e|e
  ·subst e;simp
  ·exact kY _ (Cd a c _ d e)
def Fp(c:Y2){d e n:Int}{b:List aY}(h:aY.win n∈(ck c 0 b).flatMap (kD d e)):aY.win n∈b:=by
 let⟨f,g,a⟩:=List.mem_flatMap.mp h;unfold kD at a;split at a
 ·rw[List.mem_singleton.mp a];exact Cd c b 0 f g
 ·split at a
  ·cases a
  ·unfold cX at a;let⟨p,_,i⟩:=List.mem_map.mp a;cases i
theorem Ce{H:Hp}{A:Addr}{l:List aY}{a:List V}(h:H A=⇑(.lst a))(t:cG (dP H) a l):b8 H ↥A l:=⟨A,a,1,h,t⟩
def bY(d:Y2)(a b:Int)(c:Wp):Wp:=if a=b then c else kE d a b 0 c
def iP(c:Y2)(a b:Int)(d:Wp):Wp:=if a=b then [] else tE c a b 0 d
class inductive OW
 | mk (r f:Addr) (a b:Int) (c:List aY) (g:List (fR × V)) (e:Y2) (_:vs=[↥r,↥f,.int a,.int b]) (_:b8 H ↥r c) (_:H f=⇑(.dK g)) (_:vJ H g e c) (_:↑c<=10000) (_:↑(bI e c)<=20000) (_ :
 ∀ (t L M:Addr) (d:Hp),d t=⇑(.tup [↥L,↥M])->b8 d ↥L ((ck e 0 c).flatMap (kD a b))->b8 d ↥M ((ck e 0 c).flatMap (tD a b))->aJ H d->Q ↥t d)
theorem Cf:‹(3,34,["items","views","start","stop"],OW)›:=λD=>by
 let t:bq c9 bu bZ cW cU cR 1 (d7 7) (d8 7) ["row","start","stop"] EF:=qM D
 refine fm ["items","views","start","stop","left","taken","item","row","first","last"] D.Ww.F λdF A zn s H vs Q E hr _ h=>?_
 let⟨z,R,p,q,d,ai,c,rfl,hI,hS,T,W,l2,ak⟩:=h;refine⟨_,#v[aX 4 (bJ ah),aX 5 (bJ ah),eX PassesOwn.never rfl (cM (aC D.Wu (Fj D) hr #[0,1])) (lg (n:=4) rfl (bS (bX 6) (bS (bX 7) (bS (bX 8) (bS (bX 9) gB))))) #v[bO (PW.pt (Ec (aV gC (pv 9) (pv 2) (bh _)) (Cy (aV gC (pv 3) (pv 8) (bh _))))) #v[aT (dX n8 jt ju bT (pv 4) #[6])] #v[bO (PW.pt (pS (aV gC (pv 2) (pv 8) (bh _)) (mW (aV gC (pv 9) (pv 3) (bh _))))) #v[aT (dX n8 jt ju bT (pv 5) #[6])] #v[rZ (i:=4) (by assumption) rfl (Or.inl rfl) (aC D.E4 (mK D) hr #[bx ja (aC D.Wk t hr #[7,az,bx dD (pv 2) (pv 8)]) (aC D.Wk t hr #[7,bx dD (pv 3) (pv 8),bx dD (pv 9) (pv 8)])]) vE,rZ (i:=5) (by assumption) rfl (Or.inl rfl) (aC D.E4 (mK D) hr #[aC D.Wk t hr #[7,bx dD (pv 2) (pv 8),bx dD (pv 3) (pv 8)]]) vE]]],aM (cZ #[4,5])],?_⟩
 all_goals try dsimp only[aS,aH]
 refine⟨iy,λA hA=>⟨iy,λB t=>?_⟩⟩;let W:aJ H (aL H A (.lst [])):=ao hA _;let g:aJ _ (aL (aL H A (.lst [])) B (.lst [])):=ao t _;let s0:=W.trans g;let C:A≠B:=aA af t;let MN:=aU W t;refine⟨Y,Y,z,R,d,ai,c,λj=>j≠A/\j≠B,1,hI.same s0,s0 _ _ hS,T.same s0,by lia,(λf u=>by have:=uJ c u;lia),?_,?_,λD dv v hD Q6 s1 _=>?_⟩
 ·intro n j b e;let⟨f,m,i,a,_⟩:=T n b;rw[e]at m;cases m;exact⟨aA a hA,aA a MN⟩
 ·intro j a;exact⟨(aA (g _ _ af) a).symm,(aA af a).symm⟩
 let ab:=s1 _ _ (g _ _ (af (H:=H) (a:=A) (o:=.lst [])));let ae:=s1 _ _ (af (H:=aL H A (.lst [])) (a:=B) (o:=.lst []))
 let t:D≠A/\D≠B:=by
  rename_i a;exact⟨(aA (g _ _ af) a).symm,(aA af a).symm⟩
 let g:=lZ c (Ih p q) d 0;let g:=lZ c (OV p q) d 0;refine⟨D,1,⟨_,bL.of hD⟩,eK (K:=bZ) (e:=D) (b:=dv) (λi L n=>∃ u1 u2 u3 u4:Option V,L=[⇑↥z,⇑↥R,⇑(.int p),⇑(.int q),⇑↥A,⇑↥B,u1,u2,u3,u4]/\lJ v A B (((ck c 0 d).take i).flatMap (kD p q)) (((ck c 0 d).take i).flatMap (tD p q)) n) ⟨none,none,none,none,1,⟨_,ab,.nil⟩,⟨_,ae,.nil⟩,λ_ _ m _ _=>m⟩ (by rintro i L n _ ⟨_,_,_,_,_,pv⟩;exact bL.of (pv.k _ _ hD t.1 t.2)) ?_ ?_⟩
 ·rintro i aw L n u ⟨u1,u2,u3,u4,rfl,pv⟩;let⟨am,x,g⟩:=Q6.get u;let an:=g.UL ab ae (λj h=>h) pv.k;let⟨j,M,xi,rfl,ap,ag,Yi,aq⟩:=an;let N:=qP (kD p q) x;let O:=qP (tD p q) x;let g:=iY (kD p q) (ck c 0 d) i;let g:=iY (tD p q) (ck c 0 d) i;let ar:=iY (kD p q) (ck c 0 d) (i+1);let au:=iY (tD p q) (ck c 0 d) (i+1);let⟨r,k,t1⟩:=pv.a;let⟨F,w,t2⟩:=pv.b;let g:=t1.len;let g:=t2.len;let⟨f,b,a,e⟩:=am
  let g:↑b<=20000:=by
   let⟨o,l,rfl⟩:=Fo c f b a e d 0 (lK x);have:=uJ c l;lia
  let x:↑r<sizeLine:=aN ∅
  let R:(e<=p\/q<=a)->lJ v A B (((ck c 0 d).take (i+1)).flatMap (kD p q)) (((ck c 0 d).take (i+1)).flatMap (tD p q)) (aL n A (.lst (r++[xi]))):=λg=>by
   rw[N,O];let t:kD p q (f,b,a,e)=[f]:=by unfold kD;rw[if_pos g]
   let u:tD p q (f,b,a,e)=[]:=by unfold tD;rw[if_pos g]
   rw[t,u,gV];exact pv.J3 C k (.cons ag .nil)
  exists j,Y,dO.of ap,1,E,1,E,1,E,1,Z;refine⟨Y,Y,Z,Y,dM (λg=>iF ?_) (λg=>?_)⟩
  ·exact⟨Y,.inl ⟨1,_,bL.of k⟩,Y,A,Z,k,x,Q,Y,R (.inl (of_decide_eq_true g))⟩
  let T:¬ e<=p:=λz=>g (decide_eq_true z);refine⟨Y,Y,Z,Y,dM (λg=>?_) (λg=>?_)⟩
  ·exact⟨Y,.inl ⟨1,_,bL.of k⟩,Y,A,Z,k,x,Q,Y,R (.inr (of_decide_eq_true g))⟩
  let x:¬ q<=a:=λz=>g (decide_eq_true z);have R:¬ (e<=p\/q<=a):=λz=>z.elim T x
  let ab:¬ (p<=a/\e<=q)->lJ v A B (((ck c 0 d).take i).flatMap (kD p q)) (((ck c 0 d).take i).flatMap (tD p q)) n->kD p q (f,b,a,e)=cX (cD (kW 0 (p-a) 0 b++kW (q-a) (e-a) 0 b))/\tD p q (f,b,a,e)=cX (cD (kW (p-a) (q-a) 0 b)):=λx _=>by
   exists ?_
   ·unfold kD;rw[if_neg R,if_neg x]
   ·unfold tD;rw[if_neg R,if_neg x]
  let go:¬ (p<=a/\e<=q)->∀ (S T:Addr) (l:List V) (g:Hp),g T=⇑(.lst l)->cG (dP g) l (cX (cD (kW 0 (p-a) 0 b++kW (q-a) (e-a) 0 b)))->aJ n g->↑r+↑l<=sizeLine/\lJ v A B (((ck c 0 d).take (i+1)).flatMap (kD p q)) (((ck c 0 d).take i).flatMap (tD p q)) (aL g A (.lst (r++l)))/\bV (aL g A (.lst (r++l))) M b/\(aL g A (.lst (r++l))) B=⇑(.lst F):=λx S T l g h3 U o=>by
   let⟨t,u⟩:=ab x pv;let y:=U.len;rw[N,t,dh]at ar;let y:=o _ _ k;refine⟨Nat.le_of_lt (aN ∅),?_,(Yi.same o).keep y aq.1 (aG A _ _),by rw[aK C.symm];exact o _ _ w⟩;rw[N,t];exact (pv.same o).J3 C y U
  let av:¬ (p<=a/\e<=q)->∀ (y:List V) (W G:Hp),lJ v A B (((ck c 0 d).take (i+1)).flatMap (kD p q)) (((ck c 0 d).take i).flatMap (tD p q)) W->W B=⇑(.lst F)->cG (dP G) y (cX (cD (kW (p-a) (q-a) 0 b)))->aJ W G->↑F+↑y<=sizeLine/\lJ v A B (((ck c 0 d).take (i+1)).flatMap (kD p q)) (((ck c 0 d).take (i+1)).flatMap (tD p q)) (aL G B (.lst (F++y))):=λx y W G c d X I=>by
   let⟨t,u⟩:=ab x pv;let i:=X.len;rw[O,u,dh]at au;refine⟨Nat.le_of_lt (aN ∅),?_⟩;rw[O,u];exact (c.same I).J4 C (I _ _ d) X
  let c:=j4 0 (p-a) b 0;let c:=j4 (q-a) (e-a) b 0;let c:=j4 (p-a) (q-a) b 0;refine⟨Y,Y,Z,Y,Od (λz=>⟨Y,Y,Z,Y,z⟩) (λJ=>?_) (λJ=>?_)⟩
  ·exists Y,.inl ⟨1,_,bL.of w⟩,Y,B,Z,w,aN ∅,Q,Y;rw[N,O];let t:kD p q (f,b,a,e)=[]:=by unfold kD;rw[if_neg R,if_pos J]
   let u:tD p q (f,b,a,e)=[f]:=by unfold tD;rw[if_neg R,if_pos J]
   rw[t,u,gV];exact pv.J4 C w (.cons ag .nil)
  ·refine⟨Y,Y,Y,Y,Z,M,b,0,p-a,1,Yi,by lia,λS c f s3 d=>?_⟩;let⟨c,t,d⟩:=id f;let f:=d.len;refine⟨Y,Y,Y,Z,Y,Y,Z,M,b,q-a,e-a,1,Yi.same s3,by lia,λT g u o f=>?_⟩;let⟨f,v,i⟩:=id u;let u:=i.len;refine⟨S,T,Z,o _ _ t,v,(by rw[cC,cC];exact gn (aN ∅)),λt u=>?_⟩;let s5:aJ g (aL g t (.lst (c.map V.ref++f.map V.ref))):=ao u _;refine⟨t,kW 0 (p-a) 0 b++kW (q-a) (e-a) 0 b,1,⟨c++f,by rw[af,gP],bG.append ((d.same o).same s5) (i.same s5)⟩,by rw[dh];lia,λq3 H6 c s6 d=>?_⟩;let⟨d,l,e3,h3,U⟩:=c;cases e3;let c:=s3.trans (o.trans (s5.trans s6));let⟨d,g2,e,g4⟩:=go J S q3 l H6 h3 U c;exists A,q3,Z,c _ _ k,h3,d;refine⟨Y,Y,Y,Y,Z,Y,Y,Z,M,b,p-a,q-a,1,e,by lia,λa G b I c=>⟨a,Y,b,by lia,λq5 H8 a s8 b=>?_⟩⟩;let⟨b,y,e4,h4,X⟩:=a;cases e4;let⟨a,b⟩:=av J y _ H8 g2 g4 X (I.trans s8);exact⟨B,q5,Z,(I.trans s8) _ _ g4,h4,a,Q,Y,b⟩
 ·rintro L n ⟨u1,u2,u3,u4,rfl,pv⟩;let a:=Q6.len;rw[a,gU]at pv;let⟨r,k,t1⟩:=pv.a;let⟨F,w,t2⟩:=pv.b;let b:aJ H n:=λj a m=>pv.k j a (s1 _ _ (s0 _ _ m)) (aA m hA) (aA m MN);refine⟨Y,Y,mT,λt a=>ak t A B _ af ?_ ?_ (b.trans (ao a _))⟩
  ·exact (Ce k t1).same (ao a _)
  ·exact (Ce w t2).same (ao a _)
class inductive Fq
 | mk (r:Addr) (c:dB) (s a b:Int) (d:Y2) (_:vs=[↥r,.int s,.int a,.int b]) (_:oF H r c d) (_:0<=s) (_:s<↑c) (_:Rt a b ↑(d s)) (_:(∀ (f:Wp) (q:Addr) (e:Hp),c[s.toNat]?=⇑f->b8 e ↥q (aI (bY d a b f))->aJ H e->H q=none->Q ↥q e))
theorem Df:‹(4,35,["rows","sheet","start","stop"],Fq)›:=λD=>by
 specialize fm ["rows","sheet","start","stop","views"] D.Z5.F;let⟨r,F,s,p,q,c,rfl,R,e,i,n,t⟩:=h;let u:=gR hr;exists _,#v[aX 4 (aC D.OB (jJ D) hr #[0,bJ #[1]]),aT (aC D.Yd (iz D) hr #[gu u (pv 4) (pv 1),2,3]),bO (aV eE (pv 2) (pv 3) (bh _)) #v[aM (aC D.LG (iO D) hr #[aP bH (pv 0) (pv 1)])] bg,aM (aC D.LG (iO D) hr #[aP aZ (aC D.Ww (Cf D) hr #[aP bH (pv 0) (pv 1),4,2,3]) az])]
 all_goals try dsimp only[aS,aH]
 refine⟨Y,Y,kH,λL G=>?_⟩;let u:aJ H (aL H L (.lst [.int s])):=ao G _;refine⟨r,L,F,[s],c,1,R.at_.same u,af,by simp,R.len,R.ents,R.snd,R.rk,(λx a=>by rw[List.mem_singleton.mp a];exact⟨e,i⟩),R.OR,R.bd,λS I M N v w J F j G U=>?_⟩;let x:=F s (by simp);let⟨F,M,N⟩:=w s x;let z:=gW.k (k:=Sum.inl s) v;rw[M]at z;let f:=u.trans G;let u:=R.bd s e i;let u:=lY (c s);let⟨b,u,G,O⟩:=(R.same f).one e i;refine⟨Y,Y,S,Y,z,Y,Y,F,cL (c s),p,q,1,N,by lia,by rw[O.tt];exact n,λu d=>?_⟩
 ·let⟨u,F,y,a⟩:=(R.same (f.trans d)).one e i;let T:b=u:=pQ (O.he.symm.trans a.he);subst T;let⟨B,g⟩:=mL b;refine⟨Y,Y,1,Y,dM (λi=>?_) (λi=>?_)⟩
  ·let l:p=q:=V.int.inj (of_decide_eq_true i);refine⟨Y,Y,r,Q,V,bL.of a.hr,a.ix,y,aI b,1,a.it,iC a.il (by decide),λo C u k m=>?_⟩;refine t b o C O.he ?_ (f.trans (d.trans k)) (aU (f.trans d) m);rw[kL _ g,B]at u;unfold bY;rw[if_pos l];exact u
  ·let l:¬ p=q:=λz=>i (by rw[z];exact decide_eq_true rfl);have u:p<q:=by have:=n.2.1;lia
   refine⟨Y,Y,r,Q,V,bL.of a.hr,a.ix,Y,Y,Y,y,S,p,q,aI b,I,c,1,a.it,d _ _ v,λn j=>?_,iC a.il (by decide),iC a.rl (by decide),λr L M C v y i k=>?_⟩
   ·let i:=qQ e O.he j;let⟨m,o⟩:=List.getElem?_of_mem x;let⟨x,g,R2⟩:=w n (xq (J.dn m s o n i));exact⟨x,g,R2.same d⟩
   let w:Sz c (aI b):=λn j=>by
    let i:=qQ e O.he j;let⟨e,j⟩:=R.snd.DZ i;exact nX R.snd R.rk R.OR n e j
   let e:=xW c (aI b) 0 g w;let lk:gy ((ck c 0 (aI b)).flatMap (kD p q)):=uI λi j=>UO (e i j).1 (e i j).2;have e:=lZ c (Ih p q) (aI b) 0;have e:=a.il;have e:=a.rl;refine⟨r,Q,V,dO.of v,1,L,Y,y,by lia,λo e a i m=>?_⟩;refine t b o e O.he ?_ (f.trans (d.trans (k.trans i))) (aU (f.trans (d.trans k)) m);rw[kL _ lk,Dd c u _ _ g,B]at a;unfold bY;rw[if_neg l];exact a
def lQ(a:Y2)(b c e:Int)(d:Wp):Wp:=if b=c then d else aE a e 0 (kE a b c 0 d)++tE a b c 0 d++bE a e 0 (kE a b c 0 d)
def Mv(a b c n:Int):Prop:=Rt a b n/\0<=c/\c<=n-(b-a)
def OX(a:Y2)(r:Row):bI a (cX r)=r:=by
 unfold bI cX;rw[List.flatMap_map]
 induction r with
 | nil=>rfl
 | cons p r b=>rw[jb,b];rfl
theorem Cg(a:Y2)(b c:Int):∀ (d:List aY) (f:Int),↑(bI a ((ck a f d).flatMap (kD b c)))<=↑(bI a d)+↑(bI a d)
 | [],_=>by simp[ck,bI]
 | it::r,f=>by
  let g:=Cg a b c r (f+je (dI a it));let e:bI a (it::r)=dI a it++bI a r:=by unfold bI;rw[jb];rfl
  let g:↑(bI a (kD b c (it,dI a it,f,f+je (dI a it))))<=↑(dI a it)+↑(dI a it):=by
   unfold kD;split
   ·rw[jm];show ↑(dI a it)<=_;lia
   ·split
    ·simp[bI]
    ·rw[OX];refine iC (iU _) ?_;rw[dh];have:=j4 0 (b-f) (dI a it) 0;have:=j4 (c-f) (f+je (dI a it)-f) (dI a it) 0;simp only;lia
  rw[ck,jb,ff,dh,e,dh];lia
class inductive AN
 | mk (r:Addr) (c:dB) (s a b d:Int) (e:Y2) (_:vs=[↥r,.int s,.int a,.int b,.int d]) (_:oF H r c e) (_:0<=s) (_:s<↑c) (_:Mv a b d ↑(e s)) (_:(∀ (g:Wp) (q:Addr) (f:Hp),c[s.toNat]?=⇑g->b8 f ↥q (aI (lQ e a b d g))->aJ H f->H q=none->Q ↥q f))
def uV.mid{i:Int}(a:-300000<i)(b:i<300000):uV i:=by
 let c:(300000:Int)<10^60:=by decide
 exact⟨by lia,by lia⟩
theorem uV.Xa{i:Int}(h:-100000<i/\i<100000):uV i:=uV.mid ∅ ∅
theorem zH:‹(4,36,["rows","sheet","start","stop","to"],AN)›:=λD=>by
 specialize fm ["rows","sheet","start","stop","to","views","rest","left","taken"] D.Z6.F;let⟨r,X,s,p,q,to,a,rfl,R,g,m,n,y⟩:=h;let B:=gR hr;exists _,#v[aX 5 (aC D.OB (jJ D) hr #[0,bJ #[1]]),aT (aC D.Yd (iz D) hr #[gu B (pv 5) (pv 1),2,3]),aX 6 (bx dD (_fG.uz D.Wj (D.T.nu _ D.Wj.m) (C5 D) hr #[gu B (pv 5) (pv 1)]) (bx dD (pv 3) (pv 2))),bO (kZ (pX gC gC az (pv 4) (pv 6))) #v[iG] bg,bO (aV eE (pv 2) (pv 3) (bh _)) #v[aM (aC D.LG (iO D) hr #[aP bH (pv 0) (pv 1)])] bg,ng (aC D.Ww (Cf D) hr #[aP bH (pv 0) (pv 1),5,2,3]) (lg (n:=2) rfl (bS (bX 7) (bS (bX 8) gB))),aM (aC D.Wv (uK D) hr #[7,5,4,8])]
 all_goals try dsimp only[aS,aH]
 refine⟨Y,Y,kH,λL hL=>?_⟩;let B:aJ H (aL H L (.lst [.int s])):=ao hL _;refine⟨r,L,X,[s],a,1,R.at_.same B,af,by simp,R.len,R.ents,R.snd,R.rk,(λx b=>by rw[List.mem_singleton.mp b];exact⟨g,m⟩),R.OR,R.bd,λS t ks H2 o C tp X f s2 ab=>?_⟩;let F:=X s (by simp);let⟨G,I,J⟩:=C s F;let z:=gW.k (k:=Sum.inl s) o;rw[I]at z;let i:=B.trans s2;let B:=R.bd s g m;let B:=lY (a s);let⟨b,B,X,O⟩:=(R.same i).one g m;refine⟨Y,Y,S,Y,z,Y,Y,G,cL (a s),p,q,1,J,by lia,by rw[O.tt];exact n.1,λB c=>?_⟩
 ·let hp:=n.1;let⟨B,X,u,d⟩:=(R.same (i.trans c)).one g m;let ee:b=B:=pQ (O.he.symm.trans d.he);subst ee;let⟨M,j⟩:=mL b;let m:=gW.k (k:=Sum.inl s) (c _ _ o);rw[I]at m;refine⟨Y,Y,S,Y,m,G,cL (a s),1,J.same c,by lia,λN e=>?_⟩;rw[O.tt];exists Y,Y,Z,Z;exists Y,Z,Y;rw[decide_eq_true n.2.1];refine dM (λ_=>?_) (λl=>absurd rfl l);exists Y,Z,Y;rw[decide_eq_true n.2.2];refine gp ?_;let T:b8 N ↥u (aI b):=d.it.same e;let U:=e _ _ d.hr;refine⟨Y,Y,1,Y,dM (λl=>?_) (λl=>?_)⟩
  ·let v:p=q:=V.int.inj (of_decide_eq_true l);refine⟨Y,Y,r,Q,V,bL.of U,d.ix,u,aI b,1,T,iC d.il (by decide),λw W m k x=>?_⟩;refine y b w W O.he ?_ (i.trans (c.trans (e.trans k))) (aU (i.trans (c.trans e)) x);rw[kL _ j,M]at m;unfold lQ;rw[if_pos v];exact m
  ·let v:¬ p=q:=λz=>l (by rw[z];exact decide_eq_true rfl);have z:p<q:=by have:=hp.2.1;lia
   let B:∀ n,aY.win n∈aI b->∃ l,cI t (Sum.inl n)=⇑↥l/\bV N l (cL (a n)):=λn f=>by
    let m:=qQ g O.he f;let⟨k,w⟩:=List.getElem?_of_mem F;let⟨l,j,R2⟩:=C n (xq (tp.dn k s w n m));exact⟨l,j,(R2.same c).same e⟩
   refine⟨Y,Y,r,Q,V,bL.of U,d.ix,Y,Y,Y,u,S,p,q,aI b,t,a,1,T,e _ _ (c _ _ o),B,iC d.il (by decide),iC d.rl (by decide),λC L F W G I J k=>?_⟩
   let u:Sz a (aI b):=λn f=>by
    let m:=qQ g O.he f;let⟨g,r⟩:=R.snd.DZ m;exact nX R.snd R.rk R.OR n g r
   let r:=xW a (aI b) 0 j u;let lk:gy ((ck a 0 (aI b)).flatMap (kD p q)):=uI λg m=>UO (r g m).1 (r g m).2;have N:gy ((ck a 0 (aI b)).flatMap (tD p q)):=uI λg m=>pf (r g m).1 (r g m).2;have g:=lZ a (Ih p q) (aI b) 0;have g:=lZ a (OV p q) (aI b) 0;have g:=Cg a p q (aI b) 0;have g:=d.il;have g:=d.rl;exists C,Y,dO.of G,1,E,1,Z;refine⟨Y,Y,Y,Y,L,S,F,to,E,t,a,1,I,k _ _ (e _ _ (c _ _ o)),(λn f=>?_),J,lk,N,(λn f=>u n (Fp a f)),by lia,by lia,by lia,λw g d m x=>?_⟩
   ·let⟨l,o,R2⟩:=B n (Fp a f);exact⟨l,o,R2.same k⟩
   refine y b w g O.he ?_ (i.trans (c.trans (e.trans (k.trans m)))) (aU (i.trans (c.trans (e.trans k))) x);rw[Dd a z _ _ j,Fl a z _ _ j,M]at d;unfold lQ;rw[if_neg v];exact d
class inductive SE
 | mk (r:Addr) (b:dB) (s:Int) (c:Y2) (_:vs=[↥r,.int s]) (_:oF H r b c) (_:0<=s) (_:s<↑b) (_ :
 ∀ (o:Addr) (a:Hp),b8 a ↥o (aI (c s))->aJ H a->H o=none->Q ↥o a)
theorem zI:‹(5,37,["rows","sheet"],SE)›:=λD=>by
 specialize fm ["rows","sheet"] D.Z7.F;let⟨r,d,s,a,rfl,R,b,c,k⟩:=h;exists _,#v[aM (aC D.E4 (mK D) hr #[_fG.uz D.OC (D.T.qv _ D.OC.m) (Fg D) hr #[0,1]])]
 all_goals try dsimp only[aS,aH]
 let e:=R.bd s b c;let e:=lY (a s);refine⟨Y,Y,r,d,s,a,1,R.at_,R.len,R.ents,R.snd,R.rk,b,c,R.OR,R.bd,λo f e d g=>?_⟩;refine⟨o,cL (a s),1,e,by lia,λq e a f g=>k q e ?_ (d.trans f) (aU d g)⟩;rw[nM _ (kB _),eT,LW (nX R.snd R.rk R.OR s b c)]at a;exact a
abbrev ly(a:iD):HO:=.lst (a.map λw=>V.str (dY w))
abbrev Qt:List (Str × Int):=[(Str.ofString "fresh",0),(Str.ofString "cut",3),(Str.ofString "move",4),(Str.ofString "quote",5),(Str.ofString "window",3),(Str.ofString "fix",1),(Str.ofString "back",2),(Str.ofString "fork",2),(Str.ofString "untie",1),(Str.ofString "read",1)]
abbrev Xb:List (Str × Int):=[(Str.ofString "put",2),(Str.ofString "strike",0),(Str.ofString "blot",1),(Str.ofString "lift",1)]
def jT(D:List (Str × Int))(n:List Nat):Option Int:=(D.find? λp=>decide (dY n=p.1)).map (·.2)
def zJ{D:List (Str × Int)}{n:List Nat}{i:Int}(h:jT D n=⇑i):(D.find? λp=>decide (dY n=p.1))=⇑(dY n,i):=by
 unfold jT at h;let⟨⟨x,j⟩,e,rfl⟩:=Option.map_eq_some_iff.mp h;let z:=List.find?_some e;have:dY n=x:=of_decide_eq_true z;rw[e,this]
abbrev Ft:List Nat:=[116,105,101]
inductive jo where
 | AO (h:Int) (t:List Nat)
 | plain (n:List Nat) (a:Wp)
 | nY (n:List Nat) (a:Wp) (r:Row)
def jo.At(H:Hp)(p:Addr):jo->Prop
 | .AO h t=>H p=⇑(.tup [.str "pour",.int h,.str (dY t)])
 | .plain n ns=>H p=⇑(.tup (.str (dY n)::ns.map V.int))
 | .nY n ns r=>∃ q,H p=⇑(.tup (.str (dY n)::ns.map V.int++[↥q]))/\bV H q r
def ny(n:Int):Prop:=0<=n/\n<10^60
def L4(r:Row):Prop:=↑r<=29/\∀ p∈r,ny p.1/\ny p.2
def jo.Ok:jo->Prop
 | .AO h t=>ny h/\↑t<=200
 | .plain n ns=>jT Qt n=⇑(↑ns:Int)/\∀ x∈ns,ny x
 | .nY n ns r=>jT Xb n=⇑(↑ns:Int)/\(∀ x∈ns,ny x)/\L4 r
abbrev uL(p:Int × Int):List Nat:=_gX.dg p.1++45::_gX.dg p.2
def L7{p:Int × Int}(h:ny p.1/\ny p.2):↑(uL p)<=121:=by
 rw[dh,fE];let a:=_gX.HP h.1.1 h.1.2;let b:=_gX.HP h.2.1 h.2.2;lia
def Dg{n:Int}(h:ny n):n.natAbs.log2<1920:=by
 let⟨a,b⟩:=h;by_cases z:n.natAbs=0
 ·rw[z];decide
 ·rw[Nat.log2_lt z];let a:n.natAbs<10^60:=by lia
  exact pP a (iC (show (10:Nat)^60<=2^200 by decide) (Nat.pow_le_pow_right (by decide) (by decide)))
inductive iQ where
 | num (x:Int)
 | tx (t:List Nat)
 | row (r:Row)
def iQ.At(H:Hp)(v:V):iQ->Prop
 | .num x=>v=.int x
 | .tx t=>v=.str (dY t)
 | .row r=>∃ q,v=↥q/\bV H q r
def iQ.Ok:iQ->Prop
 | .num x=>ny x
 | .tx t=>↑t<=200
 | .row r=>L4 r
abbrev Fv(r:Row):List Nat:=r.flatMap λp=>32::uL p
def iQ.line:iQ->List Nat
 | .num x=>32::_gX.dg x
 | .tx t=>32::t
 | .row r=>Fv r
def OY{r:Row}(h:L4 r):↑(Fv r)<=4000:=by
 let a:∀ l:Row,(∀ p∈l,ny p.1/\ny p.2)->↑(Fv l)<=122*↑l:=by
  intro l
  induction l with
  | nil=>intro _;exact fH _
  | cons p l b =>
   intro g;let z:=b λq b=>g q (kY _ b);have b:=L7 (g p rY);show ↑((32::uL p)++Fv l)<=_;rw[dh,fE,fE];lia
 have:=a r h.2;have:=h.1;lia
def iQ.Fw{p:iQ}(h:p.Ok):↑p.line<=4000:=by
 cases p with
 | num x=>have:=_gX.HP h.1 h.2;show ↑(32::_gX.dg x)<=_;rw[fE];lia
 | tx t=>let a:↑t<=200:=h;show ↑(32::t)<=_;rw[fE];lia
 | row r=>exact OY h
def jo.nm:jo->List Nat
 | .AO _ _=>[112,111,117,114]
 | .plain n _=>n
 | .nY n _ _=>n
def jo.parts:jo->List iQ
 | .AO h t=>[.num h,.tx t]
 | .plain _ ns=>ns.map .num
 | .nY _ ns r=>ns.map .num++[.row r]
def jo.line:jo->List Nat
 | d=>d.nm++d.parts.flatMap iQ.line
def OZ{H:Hp}{p:Addr}{d:jo}(h:d.At H p):∃ b,H p=⇑(.tup (.str (dY d.nm)::b))/\cG (λv q=>iQ.At H v q) b d.parts:=by
 let c:∀ a:List Int,cG (λv q=>iQ.At H v q) (a.map V.int) (a.map iQ.num):=λa=>by
  induction a with
  | nil=>exact .nil
  | cons x a e=>exact .cons rfl e
 cases d with
 | AO x t=>exact⟨_,by rw[h,show Str.ofString "pour"=dY [112,111,117,114] by decide +kernel];rfl,.cons rfl (.cons rfl .nil)⟩
 | plain n a=>exact⟨_,h,c a⟩
 | nY n a r =>
  let⟨q,e,z⟩:=h;exact⟨a.map V.int++[↥q],by rw[e];rfl,(c a).snoc ⟨q,1,z⟩⟩
def Ma{d:jo}(h:d.Ok):∀ q∈d.parts,q.Ok:=by
 cases d with
 | AO x t =>
  intro q a;rcases List.mem_cons.mp a with z|z
  ·rw[z];exact h.1
  ·rw[List.mem_singleton.mp z];exact h.2
 | plain n ns =>
  intro q a;let⟨x,b,rfl⟩:=List.mem_map.mp a;exact h.2 x b
 | nY n ns r =>
  intro q a;rcases List.mem_append.mp a with z|z
  ·let⟨x,b,rfl⟩:=List.mem_map.mp z;exact h.2.1 x b
  ·rw[List.mem_singleton.mp z];exact h.2.2
theorem Fx{H:Hp}:∀ {a:List V} {b:List iQ} {i:Nat} {v:V},cG (λv q=>iQ.At H v q) a b->a[i]?=⇑v->∃ q,b[i]?=⇑q/\q.At H v
 | _,_,_,_,.nil,h=>by simp at h
 | _,_,0,_,.cons o t,h=>by
  let e:=pQ h;subst e;exact⟨Y,o⟩
 | _,_,i+1,_,.cons o t,h=>by
  let⟨q,e,z⟩:=Fx (i:=i) t (by simpa using h);exact⟨q,by simpa using e,z⟩
def Ci{a:List iQ}(h:∀ q∈a,q.Ok):↑(a.flatMap iQ.line)<=4000*↑a:=by
 induction a with
 | nil=>exact Nat.zero_le _
 | cons p a b =>
  let z:=b λq b=>h q (kY _ b);have b:=iQ.Fw (h p rY);rw[jb,dh,fE,Nat.mul_add,Nat.mul_one];lia
def SG(n:List Nat):∀ a:iD,_gX.jn 32 (n::a)=n++a.flatMap (λw=>32::w):=by
 intro a
 induction a generalizing n with
 | nil=>show n=_;simp
 | cons w a b =>
  show n++32::_gX.jn 32 (w::a)=_;rw[b w,jb];simp
def Fy{D:List (Str × Int)}{n:List Nat}{k:Int}(a:∀ p∈D,32∉p.1.cps.toList/\p.1.cps.toList≠[112,111,117,114]/\p.1.cps.toList≠Ft/\↑p.1.cps.toList<=10)(h:jT D n=⇑k):32∉n/\n≠[112,111,117,114]/\n≠Ft/\↑n<=10:=by
 let z:=a _ (List.mem_of_find?_eq_some (zJ h));let e:(dY n).cps.toList=n:=_gX.qK n;rw[show ((dY n,k):Str × Int).1=dY n from rfl,e]at z;exact z
theorem O0{n:List Nat}{k:Int}(h:jT Qt n=⇑k):32∉n/\n≠[112,111,117,114]/\n≠Ft/\↑n<=10:=Fy nofun h
theorem O1{n:List Nat}{k:Int}(h:jT Xb n=⇑k):32∉n/\n≠[112,111,117,114]/\n≠Ft/\↑n<=10:=Fy nofun h
def O2(r:Row):Fv r=(r.map uL).flatMap λw=>32::w:=by
 induction r with
 | nil=>rfl
 | cons x r a=>rw[jv,jb,← a];rfl
def jo.At.same{H a:Hp}{p:Addr}{d:jo}(h:d.At H p)(s:aJ H a):d.At a p:=by
 cases d with
 | AO x t=>exact s _ _ h
 | plain n ns=>exact s _ _ h
 | nY n ns r=>let⟨q,e,b⟩:=h;exact⟨q,s _ _ e,b.same s⟩
def Mb{n:List Nat}{k:Int}(h:jT Qt n=⇑k):k<=5:=by
 let z:∀ p∈Qt,p.2<=5:=by decide +kernel
 exact z _ (List.mem_of_find?_eq_some (zJ h))
def Mc{n:List Nat}{k:Int}(h:jT Xb n=⇑k):k<=5:=by
 let z:∀ p∈Xb,p.2<=5:=by decide +kernel
 exact z _ (List.mem_of_find?_eq_some (zJ h))
def Ii{d:jo}(a:d.Ok):d.nm≠Ft/\↑d.nm<=10/\↑d.parts<=10:=by
 cases d with
 | AO x t=>exact⟨by show [112,111,117,114]≠Ft;decide,by show 4<=10;decide,by show 2<=10;decide⟩
 | plain n ns =>
  let⟨_,_,b,c⟩:=O0 a.1;have:=Mb a.1;exact⟨b,c,by show ↑(ns.map iQ.num)<=10;rw[cC];lia⟩
 | nY n ns r =>
  let⟨_,_,b,c⟩:=O1 a.1;have:=Mc a.1;exact⟨b,c,by show ↑(ns.map iQ.num++[iQ.row r])<=10;rw[dh,cC];show ↑ns+1<=10;lia⟩
class inductive zK
 | mk (q:Addr) (r:Row) (_:vs=[↥q]) (_:bV H q r) (_:L4 r) (_: ∀ (a:Addr) (b:Hp),b a=⇑(ly (r.map uL))->aJ H b->H a=none->Q ↥a b)
def O5{a b:Int}(c:0<=a)(d:0<=b):(Str.empty++Str.ofString (toString a)++Str.ofString "-"++Str.ofString (toString b))=dY (uL (a,b)):=by
 rw[_gX.xU c,_gX.xU d,show Str.ofString "-"=dY [45] by decide +kernel,show Str.empty=dY [] from rfl,xT,xT,xT];simp
theorem Dh:‹(1,38,["row"],zK)›:=λD=>by
 specialize fm ["row"] D.Sd.F;let⟨q,r,rfl,⟨i,e,m⟩,⟨u,o⟩,k⟩:=h;refine⟨_,#v[aM (gS (N:=["start","stop"]) (kG (c:=cB sC) (f:=["row"]) (d:=[none,none]) rfl rfl rfl nofun nofun rfl nofun rfl nofun) rfl (cM (pv 0)) (λ_ _ _ _ _ _=>(qI (n:=2) rfl (bS (bX 0) (bS (bX 1) gB)))) (λ_ _ _ _ _ _=>gQ) (λ_ _ _ _ _ _=>(_gX.Ox (_gX.JX (pv 0) (_gX.RW (_gX.JX (pv 1) _gX.RV))))))],?_⟩
 all_goals try dsimp only[aS,aH]
 let p:=Paired.length m;refine⟨Y,q,1,⟨_,bL.of e⟩,λf g=>gK (K:=bZ) (h:=q) (a:=i.map V.ref) (λi c a=>∃ j l:Option V,c=[j,l]/\a f=⇑(ly ((r.take i).map uL))/\aJ H a) ⟨none,none,1,af,ao g _⟩ (by rintro i c a _ ⟨_,_,_,_,b⟩;exact bL.of (b _ _ e)) ?_ ?_⟩
 ·rintro i y c a n ⟨j,l,rfl,d,b⟩;rw[fK]at n;let⟨s,t,rfl⟩:=Option.map_eq_some_iff.mp n;let⟨n,i,q⟩:=m.get t;let e:=o n (lK i);let m:=(List.getElem?_eq_some_iff.mp i).1;exists s,Y,dO.of (b _ _ q),1,E,1,Z;refine⟨Y,Y,Dg e.1,Y,Y,Dg e.2,_,d,aN (by rw[cC,cC,gm];lia),E,1,?_,bP g b (aG f _ _)⟩;rw[af,take_snoc i,gP,jv,List.map_nil,O5 e.1.1 e.2.1];show some (HO.lst _)=⇑(HO.lst _);rw[gP];rfl
 ·rintro c a ⟨j,l,rfl,d,b⟩;rw[cC,p,gU]at d;exact k f a d b g
def iQ.words:iQ->iD
 | .num x=>[_gX.dg x]
 | .tx t=>[t]
 | .row r=>r.map uL
def sW(a:List iQ):(a.flatMap iQ.words).flatMap (λw=>32::w)=a.flatMap iQ.line:=by
 induction a with
 | nil=>rfl
 | cons p a b =>
  rw[jb,jb,List.flatMap_append,b];congr 1
  cases p with
  | num x=>show (32::_gX.dg x)++[]=32::_gX.dg x;rw[gV]
  | tx t=>show (32::t)++[]=32::t;rw[gV]
  | row r=>exact (O2 r).symm
class inductive O6
 | mk (p:Addr) (d:jo) (_:vs=[↥p]) (_:d.At H p) (_:d.Ok) (_:d.nm≠Ft/\↑d.nm<=10/\↑d.parts<=10) (_: ∀ a,aJ H a->Q (.str (dY d.line)) a)
def Fz(W:iD):(W.map List.length).sum+↑W=↑(W.flatMap λw=>32::w):=by
 induction W with
 | nil=>rfl
 | cons x W a =>
  rw[jv,List.sum_cons,fE,jb,dh,fE,← a];lia
theorem Me(a b:iD):(a.map λw=>V.str (dY w))++(b.map λw=>V.str (dY w))=(a++b).map λw=>V.str (dY w):=List.map_append.symm
theorem AQ:‹(2,39,["deed"],O6)›:=λD=>by
 let l:bq c9 bu bZ cW cU cR 1 _ _ ["row"] zK:=Dh D;refine fm ["deed","words","thing"] D.Z8.F λdF A zn s H vs Q E hr _ h=>?_;let⟨p,d,rfl,R,S,T,U⟩:=h;refine⟨_,#v[bO (aV eE (aP aZ (pv 0) az) bw (bh _)) #v[aM (dX PySem.F.plainAttrs_str PySem.F.slot_str_join PySem.F.type_str_join _gX.EY bw #[bx ja (bx ja (bx ja (bJ #[bw]) (aC D.Sd l hr #[aP aZ (pv 0) az])) (bJ #[bw])) (aC D.Sd l hr #[aP aZ (pv 0) az])])] bg,aX 1 (bJ #[aP aZ (pv 0) az]),eX PassesOwn.never rfl (Vo (gD Vx (pv 0) (gj az) kg)) (bX 2) #v[rZ (i:=1) (by assumption) rfl (Or.inl rfl) (Ef (mh (bU eS rfl D.T.dR xj #[2,oV rfl D.T.jI tM])) (aC D.Sd l hr #[2]) (bJ #[_AG.ZK (pv 2)])) vE],aM (dX PySem.F.plainAttrs_str PySem.F.slot_str_join PySem.F.type_str_join _gX.EY bw #[1])],?_⟩
 all_goals try dsimp only[aS,aH]
 let tt:Str.ofString "tie"=dY Ft:=by decide +kernel
 let W:kitOne bZ (.type "int") (.type "list")=⇑false:=by kernel_rfl
 let X:kitOne bZ (.type "str") (.type "list")=⇑false:=by kernel_rfl
 let⟨vs,m,F⟩:=OZ R;let⟨n1,l,R⟩:=T;let w:=Ma S;let lv:=F.len;let ln:d.line=d.nm++d.parts.flatMap iQ.line:=rfl;exists Y,p,Q,V,dO.of m,sS;refine⟨1,Y,dM (λc=>absurd (of_decide_eq_true c) (by rw[tt];intro z;exact n1 (C1 (V.str.inj z)))) (λ_=>?_)⟩;refine⟨Y,p,Q,V,dO.of m,sS,kH,λa G=>?_⟩;let s0:=ao G (.lst [.str (dY d.nm)]);let I:(aL H a (.lst [.str (dY d.nm)])) a=⇑(ly [d.nm]):=af;refine⟨Y,Y,p,Y,dO.of (s0 _ _ m),?_,λc n=>?_⟩
 ·rintro⟨z,_⟩;let e:_HT.gH ↑(V.str (dY d.nm)::vs) 0 (some 1)=min 1 ↑(V.str (dY d.nm)::vs):=_HT.Js _ _ 1;let b:_HT.gH ↑(V.str (dY d.nm)::vs) 0 (some 1)=0:=z;rw[e,fE]at b;lia
 let ec:ir (V.str (dY d.nm)::vs) (some 1) none=vs:=by
  unfold ir;let e:_HT.gH ↑(V.str (dY d.nm)::vs) 0 (some 1)=1:=(_HT.Js _ _ 1).trans (by rw[fE];lia);let b:_HT.gH ↑(V.str (dY d.nm)::vs) ↑(V.str (dY d.nm)::vs) none=↑vs+1:=rfl;rw[e,b];show vs.take (↑vs+1-1)=vs;exact pO ∅
 rw[ec];change (aL H a (.lst [.str (dY d.nm)])) c=none at n;let l:=ao n (.tup vs);let y:(aL (aL H a (.lst [.str (dY d.nm)])) c (.tup vs)) c=⇑(.tup vs):=af;let J:=l _ _ I;let L:=s0.trans l;let ab:a≠c:=aA I n;generalize aL (aL H a (.lst [.str (dY d.nm)])) c (.tup vs)=l at L y J;refine⟨c,1,⟨_,dO.of y⟩,QK (K:=bZ) (e:=c) (b:=vs) (λi r e=>∃ u:Option V,r=[⇑↥p,⇑↥a,u]/\e a=⇑(ly (d.nm::(d.parts.take i).flatMap iQ.words))/\e c=⇑(.tup vs)/\aJ H e) ⟨none,1,by rw[List.take_zero,List.flatMap_nil];exact J,y,L⟩ (by rintro i r e _ ⟨_,_,_,g,_⟩;exact dO.of g) ?_ ?_⟩
 ·rintro i M r e hi ⟨u,rfl,g,N,v⟩;let⟨q,l,k⟩:=Fx F hi;let j:=w q (lK l);let m:=iQ.Fw j;let fl:=Ci (a:=d.parts.take i) λq k=>w q (xq k);have m:↑(d.parts.take i)<=10:=by rw[gm];lia
  let z:=Fz ((d.parts.take i).flatMap iQ.words);rw[sW]at z
  let nx:d.nm::(d.parts.take (i+1)).flatMap iQ.words=(d.nm::(d.parts.take i).flatMap iQ.words)++q.words:=by
   rw[take_snoc l,List.flatMap_append,jb,List.flatMap_nil,gV,List.cons_append]
  let l:↑(d.nm::(d.parts.take i).flatMap iQ.words)<=50000:=by rw[fE];lia
  let l:↑q.words<=29:=by
   cases q with
   | num x=>show 1<=29;decide
   | tx t=>show 1<=29;decide
   | row x=>show ↑(x.map uL)<=29;rw[cC];exact j.1
  let B:∀ (t:Addr) (b:Hp) (y:V),aJ e b->e t=none->b t=⇑(ly q.words)->∃ (l F:Addr) (m n:List V),V.ref a=↥l/\V.ref t=↥F/\b l=⇑(.lst m)/\b F=⇑(.lst n)/\↑m+↑n<=sizeLine/\∃ u:Option V,([⇑↥p,⇑↥a,⇑y]:List (Option V)).set 1 (⇑↥l)=[⇑↥p,⇑↥a,u]/\(aL b l (.lst (m++n))) a=⇑(ly (d.nm::(d.parts.take (i+1)).flatMap iQ.words))/\(aL b l (.lst (m++n))) c=⇑(.tup vs)/\aJ H (aL b l (.lst (m++n))):=by
   intro t b y o f C;exists a,t,Z,o _ _ g,C,gn (aN (by rw[cC,cC];lia)),Y,?_,?_
   ·rw[Me,af,nx]
   ·rw[aK ab.symm];exact o _ _ N
   ·exact bP G (v.trans o) (aG a _ _)
  cases q with
  | num x =>
   cases (show M=.int x from k);refine⟨Y,Y,_,"list",E,1,.int x,W,Y,gp ⟨Y,.inl ⟨x,1,Dg j,?_⟩⟩⟩;rw[_gX.xU j.1];exact⟨kH,λt f=>B t _ (.int x) (ao f _) f af⟩
  | tx t =>
   cases (show M=.str (dY t) from k);let c:↑t<=200:=j;refine⟨Y,Y,_,"list",E,1,.str _,X,Y,gp ⟨Y,.inr ⟨t,1,by lia,?_⟩⟩⟩;exact⟨kH,λc f=>B c _ (.str (dY t)) (ao f _) f af⟩
  | row x =>
   let⟨O,rfl,hr⟩:=k;let c:=hr.same v;let⟨k,i,_⟩:=id c;refine⟨Y,Y,_,"list",E,1,.lst i,Zs bZ,Y,iF ?_⟩;exact⟨Y,O,x,1,c,j,λt b C o f=>B t b ↥O o f C⟩
 ·rintro r e ⟨u,rfl,g,N,v⟩;rw[lv,gU]at g;let z:=Fz (d.parts.flatMap iQ.words);rw[sW]at z;let fl:=Ci (a:=d.parts) w;exists 1,Y,a,32,_,by rw[show Str.ofString " "=⟨(List.toArray [32])⟩ by decide +kernel],1,g,?_
  ·rw[jv,List.sum_cons,fE];lia
  rw[SG,sW,← ln];exact U e v
structure j1(S:Y1)(H:Hp)(st op r:Addr)(aQ:List aY):Prop where
 own:S r
 ne:r≠st/\r≠op
 at':b8 H ↥r aQ
def Ij(b:Y1)(H:Hp)(c d a:Addr)(f:List (List aY)):Prop:=b a/\a≠c/\a≠d/\∃ e:List Addr,H a=⇑(.lst (e.map V.ref))/\cG (j1 b H c d) e f
abbrev lS:=List (List (List aY))
structure eH(bQ:lS)(ops:Wp):Prop where
 Cj:∃ last,bQ.getLast?=⇑last/\↑ops=↑last
 fit:∀ (s:Nat) (o:Int),ops[s]?=⇑o->0<=o/\o<↑bQ/\∀ (m:Nat) (rows:List (List aY)),bQ[m]?=⇑rows->(o<=m↔s<↑rows)
 less:∀ (m:Nat) (rows:List (List aY)),bQ[m]?=⇑rows->↑rows<=↑ops
structure Sh(C:Addr)(S:Y1)(H:Hp)(x d st op:Addr)(bQ:lS)(ops:Wp):Prop where
 sx:S x
 ss:S st
 so:S op
 al:∀ a,S a->∃ ob,H a=⇑ob
 hx:H x=⇑(.ins C d [("states",↥st),("openings",↥op)])
 hs:∃ as:List Addr,H st=⇑(.lst (as.map V.ref))/\cG (Ij S H st op) as bQ
 ho:H op=⇑(.lst (ops.map V.int))
 ne:st≠op
 Qu:eH bQ ops
def b8.fr{H b:Hp}{r:Addr}{d:List aY}(h:b8 H ↥r d)(k:∀ a,H r=⇑(.lst a)->b r=⇑(.lst a))(t:∀ c a,H c=⇑(.tup a)->b c=⇑(.tup a)):b8 b ↥r d:=by
 let⟨c,f,e,g,i⟩:=h;cases e;exact⟨r,f,1,k _ g,i.mono λv i ⟨f,e,g⟩=>⟨f,e,t _ _ g⟩⟩
def Ij.fr{b f:Y1}{H c:Hp}{d a:Addr}{g:List (List aY)}(o:Ij b H d h a g)(i:∀ a,b a->f a)(k:∀ a j,H a=⇑j->b a->a≠d->a≠h->c a=⇑j)(t:∀ a e,H a=⇑(.tup e)->c a=⇑(.tup e)):Ij f c d h a g:=by
 let⟨l,m,n,p,q,r⟩:=o;exact⟨i _ l,m,n,p,k _ _ q l m n,r.mono λr l q=>⟨i _ q.own,q.ne,q.at'.fr (λe l=>k _ _ l q.own q.ne.1 q.ne.2) t⟩⟩
def Sh.fr{c:Y1}{H d:Hp}{x f g:Addr}{h:lS}{i:Wp}(l:Sh C c H x f g m h i)(k:∀ a b,H a=⇑b->c a->d a=⇑b)(t:∀ a j,H a=⇑(.tup j)->d a=⇑(.tup j)):Sh C c d x f g m h i:=by
 let⟨sx,ss,so,al,hx,⟨e,hs,n⟩,ho,ne,Qu⟩:=l;refine⟨sx,ss,so,λa z=>?_,k _ _ hx sx,⟨e,k _ _ hs ss,n.mono λa e q=>q.fr (λ_ z=>z) (λa b e z _ _=>k _ _ e z) t⟩,k _ _ ho so,ne,Qu⟩;let⟨b,e⟩:=al a z;exact⟨b,k _ _ e z⟩
theorem Sh.same{a:Y1}{H b:Hp}{x d c:Addr}{f:lS}{g:Wp}(i:Sh C a H x d c j f g)(k:aJ H b):Sh C a b x d c j f g:=i.fr (λh l e _=>k h l e) (λh h e=>k _ _ e)
theorem Sh.keep{a:Y1}{H b:Hp}{x d c l:Addr}{f:lS}{g:Wp}{i:List V}(j:Sh C a H x d c m f g)(n:H l=⇑(.lst i))(o:¬ a l)(k:cF l H b):Sh C a b x d c m f g :=
 j.fr (λh p e z=>k h p e (λq=>o (by rw[← q];exact z))) (λh h e=>k _ _ e (cS e n))
theorem zL:∀ {c d:WF},c.map V.ref=d.map V.ref->c=d
 | [],[],_=>rfl
 | [],_::_,h=>by cases h
 | _::_,[],h=>by cases h
 | a::c,b::d,h=>by
  rw[jv,jv]at h;injection h with e f;cases e;rw[zL f]
def Sh.last{i:Y1}{H:Hp}{x l f:Addr}{a:lS}{m:Wp}(j:Sh C i H x l f n a m){g:WF}(o:H f=⇑(.lst (g.map V.ref))):∃ h b,g=h++[b]/\∀ last,a.getLast?=⇑last->Ij i H f n b last:=by
 let⟨p,k,q⟩:=j.hs
 let e:g=p:=by
  rw[o]at k;have:=HO.lst.inj (pQ k);exact zL this
 subst e;let⟨last,c,_⟩:=j.Qu.Cj
 obtain⟨d,rfl⟩:∃ d,a=d++[last]:=by
  rcases l6 a with rfl|⟨d,r,rfl⟩
  ·cases c
  ·rw[kj,lN]at c;cases c;exact⟨d,kj⟩
 let⟨h,b,rfl,_,s⟩:=q.split;refine⟨h,b,1,λr e=>?_⟩;rw[c]at e;cases e;exact s
def sY(a:List V){p:Int}(h:0<=p):ir a none (⇑p)=a.take p.toNat:=by
 unfold ir;let b:_HT.gH ↑a 0 none=0:=rfl
 let c:_HT.gH ↑a ↑a (⇑p)=min p.toNat ↑a:=by
  show (if p<0 then (p+(↑a:Int)).toNat else min p.toNat ↑a)=_;rw[if_neg ∅]
 rw[b,c,List.drop_zero,Nat.sub_zero];rcases Nat.le_total p.toNat ↑a with z|z
 ·rw[Nat.min_eq_left z]
 ·rw[Nat.min_eq_right z,pO (fH _),pO z]
def vO(a:List V){p:Int}(h:0<=p):ir a (⇑p) none=a.drop p.toNat:=by
 unfold ir;let b:_HT.gH ↑a ↑a none=↑a:=rfl
 let c:_HT.gH ↑a 0 (⇑p)=min p.toNat ↑a:=by
  show (if p<0 then (p+(↑a:Int)).toNat else min p.toNat ↑a)=_;rw[if_neg ∅]
 rw[b,c];rcases Nat.le_total p.toNat ↑a with z|z
 ·rw[Nat.min_eq_left z,pO (by rw[l9];lia)]
 ·rw[Nat.min_eq_right z,xm (fH _),xm z];simp
class inductive Mf
 | mk (a r:Addr) (b:List V) (s:Nat) (_:vs=[↥a,.int (s:Nat),↥r]) (_:H a=⇑(.lst b)) (_:s<=↑b) (_:↑b<=1000) (_: ∀ (p:Addr) (c:Hp),c p=⇑(.lst (b.take s++[↥r]++b.drop (s+1)))->aJ H c->H p=none->Q ↥p c)
class inductive SH(C:Addr)
 | mk (x e:Addr) (_:vs=[↥x]) (_:H x=⇑(.ins C e [])) (_: ∀ (b c z:Addr) (d:Hp),Sh C (λa=>a=x\/a=b\/a=c\/a=z) d x e b c [[]] []->cF x H d->H b=none->H c=none->H z=none->Q .gc d)
class inductive ph(C:Addr)
 | mk (x d a c:Addr) (b:List V) (_:vs=[↥x]) (_:H x=⇑(.ins C d [("states",↥a),("openings",↥c)])) (_:H a=⇑(.lst b)) (_:Q (.int ((↑b:Nat)-1)) H)
class inductive Xc(C:Addr)
 | mk (b:Y1) (x d c e:Addr) (f:lS) (a:Wp) (_:vs=[↥x]) (_:Sh C b H x d c e f a) (_:Q (.int (↑a:Nat)) H)
theorem zM:‹(1,40,["state","sheet","items"],Mf)›:=λD=>by
 specialize fm ["state","sheet","items"] D.Wx.F;let⟨j,r,a,s0,rfl,k,n,x,w⟩:=h;exists _,#v[bO (kZ (pX gC gC az (pv 1) (gg D.T.eV (pv 0)))) #v[iG] bg,aM (bx ja (bx ja (gD jy (pv 0) kg (gj (pv 1))) (bJ #[2])) (gD jy (pv 0) (gj (bx cT (pv 1) az)) kg))]
 all_goals try dsimp only[aS,aH]
 refine⟨Y,Z,Y,dM (λn=>?_) (λn=>absurd (decide_eq_true ∅) n)⟩;exists Y,j,Y,.inl (bL.of k),Z,Y;rw[decide_eq_true (show ((s0:Nat):Int)<=((↑a:Nat):Int) by lia)];refine gp ?_;refine⟨Y,Y,Y,j,Y,bL.of k,λb n=>?_⟩;rw[sY _ ∅,Int.toNat_natCast];let o:aJ H (aL H b (.lst (a.take s0))):=ao n _;let p:(aL H b (.lst (a.take s0))) b=⇑(.lst (a.take s0)):=af;generalize aL H b (.lst (a.take s0))=f at o p;refine⟨Y,kH,λc n=>?_⟩;let l:aJ f (aL f c (.lst [↥r])):=ao n _;let q:(aL f c (.lst [↥r])) c=⇑(.lst [↥r]):=af;generalize aL f c (.lst [↥r])=g at l q;refine⟨b,c,Z,l _ _ p,q,(by rw[gm];exact gn (aN (by simp only[nC];lia))),λd b=>?_⟩;let s:aJ g (aL g d (.lst (a.take s0++[↥r]))):=ao b _;let t:(aL g d (.lst (a.take s0++[↥r]))) d=⇑(.lst (a.take s0++[↥r])):=af;generalize aL g d (.lst (a.take s0++[↥r]))=i at s t;let u:=o.trans (l.trans s);refine⟨Y,Y,Z,Y,j,Y,bL.of (u _ _ k),λe b=>?_⟩;rw[vO _ ∅,show (((s0:Nat):Int)+1).toNat=s0+1 by lia];let m:aJ i (aL i e (.lst (a.drop (s0+1)))):=ao b _;let v:(aL i e (.lst (a.drop (s0+1)))) e=⇑(.lst (a.drop (s0+1))):=af;generalize aL i e (.lst (a.drop (s0+1)))=a at m v;refine⟨d,e,Z,m _ _ t,v,(by rw[dh,gm,l9];exact gn (aN (by simp only[nC];lia))),λc a=>?_⟩;let b:=u.trans m;exact w c _ af (b.trans (ao a _)) (aU b a)
theorem uM:‹(1,41,["self"],(SH cO))›:=λD=>by
 specialize fm ["self"] D.Z9.F;let⟨x,d,rfl,n,F⟩:=h;exists _,#v[iI (pv 0) (bJ #[bJ ah]) rfl,iI (pv 0) (bJ ah) rfl]
 all_goals try dsimp only[aS,aH]
 refine⟨iy,λz o=>?_⟩;let i:aJ H (aL H z (.lst [])):=ao o _;let p:(aL H z (.lst [])) z=⇑(.lst []):=af;generalize aL H z (.lst [])=j at i p;refine⟨kH,λa k=>?_⟩;let q:aJ j (aL j a (.lst [↥z])):=ao k _;let y:(aL j a (.lst [↥z])) a=⇑(.lst [↥z]):=af;generalize aL j a (.lst [↥z])=l at q y;let r:=i.trans q;refine⟨Y,x,cO,d,Y,r _ _ n,D.dH.cl,D.lO,by decide,?_⟩;let g:cF x l (aL l x (.ins cO d (_L2.eY "states" ↥a []))):=aG x _ _;let s:(aL l x (.ins cO d (_L2.eY "states" ↥a []))) x=⇑(.ins cO d [("states",↥a)]):=af;generalize aL l x (.ins cO d (_L2.eY "states" ↥a []))=f at g s;let j:a≠x:=(aA (i _ _ n) k).symm;let l:z≠x:=(aA n o).symm;let G:z≠a:=aA p k;let n:=g _ _ y j;let y:=g _ _ (q _ _ p) l;refine⟨iy,λb c=>?_⟩;let B:b≠x:=(aA s c).symm;let I:a≠b:=aA n c;let J:z≠b:=aA y c;refine⟨Y,x,cO,d,Y,ao c _ _ _ s,D.dH.cl,D.nL,(by show 1<1000;decide),?_⟩
 let C:cF x H (aL (aL f b (.lst [])) x (.ins cO d (_L2.eY "openings" ↥b [("states",↥a)]))):=λL q e p=>by
  rw[aK p];exact ao c _ _ _ (g _ _ (r _ _ e) p)
 let t:(aL (aL f b (.lst [])) x (.ins cO d (_L2.eY "openings" ↥b [("states",↥a)]))) z=⇑(.lst []):=by rw[aK l];exact ao c _ _ _ y
 let u:(aL (aL f b (.lst [])) x (.ins cO d (_L2.eY "openings" ↥b [("states",↥a)]))) a=⇑(.lst [↥z]):=by rw[aK j];exact ao c _ _ _ n
 let v:(aL (aL f b (.lst [])) x (.ins cO d (_L2.eY "openings" ↥b [("states",↥a)]))) b=⇑(.lst []):=by rw[aK B];exact af
 let w:(aL (aL f b (.lst [])) x (.ins cO d (_L2.eY "openings" ↥b [("states",↥a)]))) x=⇑(.ins cO d [("states",↥a),("openings",↥b)]):=af;generalize aL (aL f b (.lst [])) x (.ins cO d (_L2.eY "openings" ↥b [("states",↥a)]))=d at C t u v w
 refine F a b z _ ⟨.inl rfl,.inr (.inl rfl),.inr (.inr (.inl rfl)),λL bu=>?_,w,⟨[z],u,.cons ⟨.inr (.inr (.inr rfl)),G,J,[],t,.nil⟩ .nil⟩,v,I,⟨⟨[],V⟩,λs0 a e=>(by cases s0 <;> cases e),λm a e=>?_⟩⟩ C (aU i k) ?_ o
 ·rcases bu with rfl|rfl|rfl|rfl
  ·exact⟨_,w⟩
  ·exact⟨_,u⟩
  ·exact⟨_,v⟩
  ·exact⟨_,t⟩
 ·match m,e with
  | 0,e=>cases e;exact fH _
  | m+1,e=>cases e
 ·exact aU r (iS g B c)
theorem oH:‹(1,42,["self"],(ph cO))›:=λD=>by
 specialize fm ["self"] D.Se.F;let⟨x,d,a,e,f,rfl,b,c,k⟩:=h;exists _,#v[aM (bx dD (gg D.T.eV (cY (pv 0) rfl)) az)]
 all_goals try dsimp only[aS,aH]
 exact⟨Y,x,cO,d,_,↥a,1,b,D.dH.cl,D.lO,1,a,Y,.inl (bL.of c),Z,k⟩
theorem rV:‹(1,43,["self"],(Xc cO))›:=λD=>by
 specialize fm ["self"] D.Wy.F;let⟨S,x,d,a,i,j,l,rfl,W,k⟩:=h;let⟨i,b,j⟩:=W.hs;let⟨e,f,g⟩:=W.Qu.Cj;exists _,#v[aM (gg D.T.eV (aP bH (cY (pv 0) rfl) (ig fF az)))]
 all_goals try dsimp only[aS,aH]
 let⟨m,c,rfl,r⟩:=W.last b;refine⟨Y,x,cO,d,_,↥a,1,W.hx,D.dH.cl,D.lO,1,Y,a,E,↥c,V,bL.of b,(by rw[gP];exact gE _ _),?_⟩;let⟨_,_,_,d,a,b⟩:=r e f;exists c,Y,.inl (bL.of a);rw[cC,b.len,← g];exact k
def a'(b:List (List aY))(a:Nat × List aY):List (List aY):=b.take a.1++[a.2]++b.drop (a.1+1)
def nA(a:List (List aY))(b:List (Nat × List aY)):List (List aY):=b.foldl a' a
def Xe(c:List (List aY))(a:List (Nat × List aY)):Prop:=∀ (i:Nat) (b:Nat × List aY),a[i]?=⇑b->b.1<=↑(nA c (a.take i))
def SI{a:List (List aY)}{b:Nat × List aY}(h:b.1<=↑a):↑a<=↑(a' a b)/\↑(a' a b)<=↑a+1:=by
 unfold a';rw[dh,dh,gm,l9];simp only[nC];lia
def Ck{b:List (List aY)}{a:List (Nat × List aY)}{i:Nat}{c:Nat × List aY}(h:a[i]?=⇑c):nA b (a.take (i+1))=a' (nA b (a.take i)) c:=by
 unfold nA;rw[take_snoc h,List.foldl_append];rfl
theorem zN{b:List (List aY)}{a:List (Nat × List aY)}(c:Xe b a):∀ i,i<=↑a->↑b<=↑(nA b (a.take i))/\↑(nA b (a.take i))<=↑b+i
 | 0,_=>⟨Nat.le_refl _,fH _⟩
 | i+1,h=>by
  let e:a[i]?=⇑a[i]:=mS ∅;let d:=zN c i ∅;let d:=SI (c i _ e);rw[Ck e];lia
def eH.step{a:lS}{d:Wp}{f b:List (List aY)}(i:eH a d)(j:a.getLast?=⇑f)(n:↑f<=↑b):eH (a++[b]) (d++List.replicate (↑b-↑f) ((↑a:Nat):Int)):=by
 let⟨⟨o,h,p⟩,fit,less⟩:=i;rw[j]at h;cases h
 let get:∀ (m:Nat) (r:List (List aY)),(a++[b])[m]?=⇑r->a[m]?=⇑r/\m<↑a\/m=↑a/\r=b:=λm r e=>by
  by_cases c:m<↑a
  ·rw[List.getElem?_append_left c]at e;exact .inl ⟨e,c⟩
  ·rw[List.getElem?_append_right ∅]at e
   match g:m-↑a,e with
   | 0,e=>cases e;exact .inr ⟨by lia,1⟩
   | k+1,e=>cases e
 refine⟨⟨b,lN,by rw[dh,xo];lia⟩,λs o e=>?_,λm r e=>?_⟩
 ·by_cases c:s<↑d
  ·rw[List.getElem?_append_left c]at e;let⟨c,h,l⟩:=fit s o e;refine⟨c,by rw[dh];simp only[nC];lia,λm r g=>?_⟩;rcases get m r g with ⟨q,_⟩|⟨rfl,rfl⟩
   ·exact l m r q
   ·constructor
    ·intro _;lia
    ·intro _;lia
  ·rw[List.getElem?_append_right ∅,List.getElem?_replicate]at e;split at e
   ·cases e;refine⟨by lia,by rw[dh];simp only[nC];lia,λm r g=>?_⟩;rcases get m r g with ⟨q,l⟩|⟨rfl,rfl⟩
    ·have:=less m r q;constructor
     ·intro z;lia
     ·intro z;lia
    ·constructor
     ·intro _;lia
     ·intro _;lia
   ·cases e
 ·rw[dh,xo];rcases get m r e with ⟨q,_⟩|⟨rfl,rfl⟩
  ·have:=less m r q;lia
  ·lia
theorem cG.take{a b:Type}{c:a->b->Prop}:∀ {d:List a} {bs:List b} (n:Nat),cG c d bs->cG c (d.take n) (bs.take n)
 | _,_,0,_=>by rw[List.take_zero,List.take_zero];exact .nil
 | _,_,n+1,.nil=>.nil
 | _,_,n+1,.cons e r=>.cons e (r.take n)
theorem cG.drop{a b:Type}{c:a->b->Prop}:∀ {d:List a} {bs:List b} (n:Nat),cG c d bs->cG c (d.drop n) (bs.drop n)
 | _,_,0,h=>h
 | _,_,n+1,.nil=>.nil
 | _,_,n+1,.cons _ r=>r.drop n
theorem FA(v:V):∀ n:Nat,(List.replicate n [v]).flatten=List.replicate n v
 | 0=>rfl
 | n+1=>by rw[List.replicate_succ,List.flatten_cons,FA v n,List.replicate_succ];rfl
def SJ{H:Hp}{a:Addr}{b:HO}(h:H a=⇑b):aL H a b=H:=by
 funext c;by_cases e:c=a
 ·rw[e,af,h]
 ·rw[aK e]
def Ik(H:Hp)(b:Addr)(a:Nat × List aY):Prop:=∃ r:Addr,H b=⇑(.tup [.int (a.1:Nat),↥r])/\b8 H ↥r a.2
theorem Ik.same{H a:Hp}{b:Addr}{c:Nat × List aY}(s:aJ H a):Ik H b c->Ik a b c:=λ⟨r,d,e⟩=>⟨r,s _ _ d,e.same s⟩
class inductive O8(C:Addr)
 | mk (f:Y1) (x g h i j:Addr) (c:lS) (k:Wp) (l:WF) (d:List (Nat × List aY)) (b:List (List aY)) (_:vs=[↥x,↥j]) (_:Sh C f H x g h i c k) (_:H j=⇑(.lst (l.map V.ref))) (_:cG (Ik H) l d) (_:c.getLast?=⇑b) (_:Xe b d) (_:↑d<=200) (_:↑b<=500) (_:↑c<=1000) (_ :
 ∀ (m:Y1) (e:Hp),Sh C m e x g h i (c++[nA b d]) (k++List.replicate (↑(nA b d)-↑b) ((↑c:Nat):Int))->(∀ a,m a->f a\/H a=none)->(∀ a n,H a=⇑n->¬ f a->e a=⇑n)->(∀ a o,H a=⇑(.tup o)->e a=⇑(.tup o))->Q .gc e)
theorem AR:‹(2,44,["self","changes"],(O8 cO))›:=λD=>by
 specialize fm ["self","changes","state","ahead","sheet","items"] D.g0.F;let⟨ab,x,o,a,b,ae,d,p,cs,m,g,rfl,W,hc,a2,G,ag,lc,ll,lp,aw⟩:=h;exists _,#v[aX 2 (aP bH (cY (pv 0) rfl) (ig fF az)),aX 3 (gg D.T.eV (pv 2)),eX PassesOwn.never rfl (cM (pv 1)) (lg (n:=2) rfl (bS (bX 4) (bS (bX 5) gB))) #v[aX 2 (aC D.Wx (zM D) hr #[2,4,fZ ie rfl D.T.jI tM #[5]])],aT (dX n8 jt ju bT (cY (pv 0) rfl) #[2]),vf (pv 0) (bx Nr (bJ #[gO (pv 0) D.dH D.Se (oH D) hr bR]) (bx dD (gg D.T.eV (pv 2)) (pv 3))) HF]
 all_goals try dsimp only[aS,aH]
 let⟨n,I,al⟩:=id W.hs;let⟨Qn,J,ea,ak⟩:=W.last I;let⟨Sa,a4,a5,rs,ha,ar⟩:=ak g G;let ax:=al.len;refine⟨Y,x,cO,o,_,↥a,1,W.hx,D.dH.cl,D.lO,1,Y,a,E,↥J,V,bL.of I,(by rw[ea,gP];exact gE _ _),?_⟩;exists Y,J,Y,.inl (bL.of ha);rw[cC,ar.len];let Cz:∀ q,H q=none->q≠a/\q≠b:=λq L=>⟨λz=>(by rw[z,I]at L;cases L),λz=>(by rw[z,W.ho]at L;cases L)⟩;refine⟨Y,ae,1,⟨_,bL.of hc⟩,eK (K:=bZ) (e:=ae) (b:=cs.map V.ref) (λk M c=>∃ (u4 u5:Option V) (l:Y1) (f:Addr),M=[⇑↥x,⇑↥ae,⇑↥f,⇑(.int (↑g:Nat)),u4,u5]/\aJ H c/\(∀ q,ab q->l q)/\(∀ q,l q->ab q\/H q=none)/\(∀ q,l q->∃ i,c q=⇑i)/\Ij l c a b f (nA g (m.take k))) ⟨none,none,ab,J,1,aJ.refl _,λ_ z=>z,λ_ z=>.inl z,W.al,ak g G⟩ (by rintro k M c _ ⟨_,_,_,_,_,s0,_⟩;exact bL.of (s0 _ _ hc)) ?_ ?_⟩
 ·rintro k a3 M c U ⟨u4,u5,l,f,rfl,j,t,am,an,y⟩;rw[fK]at U;let⟨aB,et,rfl⟩:=Option.map_eq_some_iff.mp U;let⟨s,S,q⟩:=a2.get et;let L:=(List.getElem?_eq_some_iff.mp S).1;let⟨ri,ht,L⟩:=q.same j;let⟨U,vs,eb,hb,aO⟩:=id L;cases eb;let⟨a0,av,a1,N,ap,O⟩:=id y;exists aB,Y,dO.of ht,1,E,1,Z;refine⟨Y,Y,Y,ri,Y,.inl (bL.of hb),λz X=>?_⟩;let C:aJ c (aL c z (.lst vs)):=ao X _;let u:(aL c z (.lst vs)) z=⇑(.lst vs):=af;generalize aL c z (.lst vs)=B at C u;let aq:=zN ag k ∅;let L:=ag k s S;let R:=O.len;refine⟨f,z,_,s.1,1,C _ _ ap,by rw[cC,R];exact L,by rw[cC,R];lia,λv w au r L=>?_⟩;let F:=C.trans r;let fz:H z=none:=aU j X;let T:H v=none:=aU (j.trans C) L;exists E,λq=>l q\/q=z\/q=v,v,1,j.trans F,λq z=>.inl (t q z),λq bu=>?_,λq bu=>?_,.inr (.inr rfl),(Cz v T).1,(Cz v T).2,N.take s.1++[z]++N.drop (s.1+1),?_
  ·rcases bu with bu|rfl|rfl
   ·exact am q bu
   ·exact .inr fz
   ·exact .inr T
  ·rcases bu with bu|rfl|rfl
   ·let⟨i,e⟩:=an q bu;exact⟨i,F _ _ e⟩
   ·exact⟨_,r _ _ u⟩
   ·exact⟨_,au⟩
  ·rw[au];simp only[gP,List.map_take,List.map_drop,jv,List.map_nil]
  ·rw[Ck S];let e:cG (j1 (λq=>l q\/q=z\/q=v) w a b) N (nA g (m.take k)):=O.mono λak i q=>⟨.inl q.own,q.ne,q.at'.same F⟩;refine ((e.take s.1).app (.cons ⟨.inr (.inl rfl),Cz z fz,⟨z,vs,1,r _ _ u,aO.mono λv i q=>q.same F⟩⟩ .nil)).app (e.drop (s.1+1))
 ·rintro M c ⟨u4,u5,l,f,rfl,j,t,am,an,y⟩;let L:↑(cs.map V.ref)=↑m:=by rw[cC,a2.len]
  rw[L,gU]at y;let aq:=zN ag ↑m (fH _);rw[gU]at aq;let⟨a0,av,a1,N,ap,O⟩:=id y;let R:=O.len;let s:=W.same j;let S:=j _ _ I;refine⟨Y,x,cO,o,_,↥a,1,s.hx,D.dH.cl,D.lO,1,.inl ⟨1,_,bL.of S⟩,Y,a,Z,S,(by rw[cC];exact aN ∅),?_⟩;rw[show n.map V.ref++[↥f]=(n++[f]).map V.ref by rw[gP];rfl];let v:cF a c (aL c a (.lst ((n++[f]).map V.ref))):=aG a _ _;let au:(aL c a (.lst ((n++[f]).map V.ref))) a=⇑(.lst ((n++[f]).map V.ref)):=af;generalize aL c a (.lst ((n++[f]).map V.ref))=B at v au;let I:x≠a:=cS s.hx S;let aB:x≠b:=cS s.hx s.ho;let T:=v _ _ s.hx I;let o2:=v _ _ s.ho W.ne.symm;let aO:=v _ _ ap av
  let I:(↑((n++[f]).map V.ref):Int)-1=((↑d:Nat):Int):=by
   rw[cC,dh,ax];simp only[nC];lia
  exists Y,x,cO,o,_,↥b,1,T,D.dH.cl,D.nL,1,Y,x,o,Y,T,1,x,o,a,b,Y,T,au;rw[I];refine⟨kH,λC I=>?_⟩;let r:aJ B (aL B C (.lst [.int (↑d:Nat)])):=ao I _;let b3:(aL B C (.lst [.int (↑d:Nat)])) C=⇑(.lst [.int (↑d:Nat)]):=af;generalize aL B C (.lst [.int (↑d:Nat)])=w at r b3;exists Y,f,Y,.inl (bL.of (r _ _ aO)),Y,Z;rw[cC,R];let B:((↑(nA g m):Nat):Int)-((↑g:Nat):Int)=((↑(nA g m)-↑g:Nat):Int):=by lia
  show Y7 _ (V.int (((↑(nA g m):Nat):Int)-((↑g:Nat):Int))) _ _;rw[B];refine⟨C,Z,b3,by lia,by lia,(by simp only[nC];exact gn (aN ∅)),λF a3=>?_⟩;rw[Int.toNat_natCast,FA];generalize hk:↑(nA g m)-↑g=k;let s4:aJ w (aL w F (.lst (List.replicate k (V.int (↑d:Nat))))):=ao a3 _;let b4:(aL w F (.lst (List.replicate k (V.int (↑d:Nat))))) F=⇑(.lst (List.replicate k (V.int (↑d:Nat)))):=af;generalize aL w F (.lst (List.replicate k (V.int (↑d:Nat))))=U at s4 b4;let X:=r.trans s4
  let lo:↑p<=700:=by
   let⟨g,e,i⟩:=W.Qu.Cj;rw[G]at e;cases e;lia
  refine⟨b,F,Z,X _ _ o2,b4,(by rw[cC,xo];exact gn (aN ∅)),?_⟩;rw[show p.map V.int++List.replicate k (V.int (↑d:Nat))=(p++List.replicate k ((↑d:Nat):Int)).map V.int by rw[gP,List.map_replicate]];let k5:cF b U (aL U b (.lst ((p++List.replicate k ((↑d:Nat):Int)).map V.int))):=aG b _ _;let o5:(aL U b (.lst ((p++List.replicate k ((↑d:Nat):Int)).map V.int))) b=⇑(.lst ((p++List.replicate k ((↑d:Nat):Int)).map V.int)):=af;generalize aL U b (.lst ((p++List.replicate k ((↑d:Nat):Int)).map V.int))=d at k5 o5;let p:=k5 _ _ (X _ _ T) aB;refine⟨o,_,p,(by show 2<1000;decide),?_⟩;let g:aL d x (.ins cO o (_L2.eY "openings" ↥b ([("states",↥a),("openings",↥b)]:List (Str × V))))=d:=SJ p;rw[g];let g:∀ q i,c q=⇑i->q≠a->q≠b->d q=⇑i:=λq i e k m=>k5 _ _ (X _ _ (v _ _ e k)) m;have r:∀ q o,c q=⇑(.tup o)->d q=⇑(.tup o):=λq o e=>g _ _ e (cS e S) (cS e s.ho);have c:=k5 _ _ (X _ _ au) W.ne;refine aw l d ⟨t _ W.sx,t _ W.ss,t _ W.so,λq bu=>?_,p,⟨n++[f],c,?_⟩,by rw[hk];exact o5,W.ne,W.Qu.step G aq.1⟩ am (λq i e n=>?_) (λq o e=>r _ _ (j _ _ e))
  ·by_cases d:q=a
   ·rw[d];exact⟨_,c⟩
   by_cases u:q=b
   ·rw[u];exact⟨_,o5⟩
   let⟨i,e⟩:=an q bu;exact⟨i,g _ _ e d u⟩
  ·refine (cG.mono (λJ a q=>?_) al).app (.cons (y.fr (λ_ z=>z) (λq i e _ k m=>g _ _ e k m) r) .nil);exact q.fr t (λq i e _ k m=>g _ _ (j _ _ e) k m) (λq o e=>r _ _ (j _ _ e))
  ·exact g _ _ (j _ _ e) (λz=>n (by rw[z];exact W.ss)) (λz=>n (by rw[z];exact W.so))
def qR(n:Nat)(a:Int):Prop:=0<=a/\a<(n:Nat)
def qR.get{n:Nat}{a:Int}(h:qR n a):∃ j:Nat,a=j/\j<n:=by
 let⟨b,c⟩:=h;exact⟨a.toNat,by lia,by lia⟩
def j2(a:lS)(b:Wp):Prop:=↑a<=1000/\↑b<=1000
class inductive Cm(C:Addr)
 | mk (b:Y1) (x d c e:Addr) (f:lS) (a:Wp) (s:Int) (_:vs=[↥x,.int s]) (_:Sh C b H x d c e f a) (_:qR ↑a s) (_:Q .gc H)
class inductive Mg(C:Addr)
 | mk (b:Y1) (x d c e:Addr) (a:lS) (f:Wp) (m:Int) (_:vs=[↥x,.int m]) (_:Sh C b H x d c e a f) (_:qR ↑a m) (_:Q .gc H)
def SK(H a:Hp)(q:Addr)(c:List (List aY)):Prop:=H q=none/\∃ b:List Addr,a q=⇑(.lst (b.map V.ref))/\cG (λr d=>H r=none/\r≠q/\b8 a ↥r d) b c
class inductive FD(C:Addr)
 | mk (f:Y1) (x g h i:Addr) (a:lS) (c:Wp) (m:Int) (_:vs=[↥x,.int m]) (_:Sh C f H x g h i a c) (_:j2 a c) (_:qR ↑a m) (_:(∀ (d:Nat) (e:List (List aY)),m=d->a[d]?=⇑e->∀ (q:Addr) (b:Hp),SK H b q e->aJ H b->Q ↥q b))
class inductive O9(C:Addr)
 | mk (e:Y1) (x f g h:Addr) (a:lS) (c:Wp) (_:vs=[↥x]) (_:Sh C e H x f g h a c) (_:j2 a c) (_:(∀ (d:List (List aY)),a.getLast?=⇑d->∀ (q:Addr) (b:Hp),SK H b q d->aJ H b->Q ↥q b))
theorem dJ:‹(2,45,["self","sheet"],(Cm cO))›:=λD=>by
 specialize fm ["self","sheet"] D.E5.F;let⟨S,x,d,b,c,e,f,j,rfl,W,a,g⟩:=h;exists _,#v[bO (kZ (pX gC jR az (pv 1) (gO (pv 0) D.dH D.Wy (rV D) hr bR))) #v[iG] bg]
 all_goals try dsimp only[aS,aH]
 exists Y,Z,Y;rw[decide_eq_true a.1];refine dM (λ_=>?_) (λi=>absurd rfl i);exists Y,x,d,Y,W.hx,1,S,x,d,b,c,e,f,1,W,Z,Y;rw[decide_eq_true a.2];exact gp g
theorem pI:‹(2,46,["self","moment"],(Mg cO))›:=λD=>by
 specialize fm ["self","moment"] D.hC.F;let⟨S,x,d,b,c,l,m,e,rfl,W,a,f⟩:=h;let⟨g,i,j⟩:=W.hs;exists _,#v[bO (kZ (pX gC gC az (pv 1) (gO (pv 0) D.dH D.Se (oH D) hr bR))) #v[iG] bg]
 all_goals try dsimp only[aS,aH]
 exists Y,Z,Y;rw[decide_eq_true a.1];refine dM (λ_=>?_) (λk=>absurd rfl k);exists Y,x,d,Y,W.hx,1,x,d,b,c,Y,W.hx,i,Z,Y;rw[decide_eq_true (show e<=(↑(g.map V.ref):Int)-1 by rw[cC,j.len];exact Int.le_sub_one_of_lt a.2)];exact gp f
def Sh.at'{c:Y1}{H:Hp}{x h a:Addr}{d:lS}{j:Wp}(k:Sh C c H x h a l d j){b:WF}(m:H a=⇑(.lst (b.map V.ref))){i:Nat}{e:List (List aY)}(n:d[i]?=⇑e):∃ f,b[i]?=⇑f/\Ij c H a l f e:=by
 let⟨o,g,p⟩:=k.hs
 let q:b=o:=by
  rw[m]at g;exact zL (HO.lst.inj (pQ g))
 subst q;exact p.get' n
def Sh.pj{d:Y1}{H:Hp}{x e f:Addr}{a:lS}{c:Wp}(h:Sh C d H x e f i a c):∃ last,a.getLast?=⇑last/\a[↑a-1]?=⇑last/\↑c=↑last:=by
 let⟨last,b,g⟩:=h.Qu.Cj;refine⟨last,b,?_,g⟩;rw[List.getLast?_eq_getElem?]at b;exact b
theorem sZ:‹(3,47,["self","moment"],(FD cO))›:=λD=>by
 specialize fm ["self","moment"] D.hE.F;let⟨S,x,o,p,M,k,N,O,rfl,W,R,y,T⟩:=h;let⟨as,B,al⟩:=id W.hs;refine⟨_,#v[aT (cV (pv 0) D.dH D.hC (pI D) hr bR #[1]),aM (gS (N:=["items"]) (kG (c:=cB jZ) (f:=["self","moment"]) (d:=[none]) rfl rfl rfl nofun nofun rfl nofun rfl nofun) rfl (cM (aP bH (cY (pv 0) rfl) (pv 1))) (λ_ _ _ _ _ _=>(bX 0)) (λ_ _ _ _ _ _=>gQ) (λ_ _ _ _ _ _=>(fZ HE rfl D.T.jI tM #[0])))],?_⟩
 all_goals try dsimp only[aS,aH]
 exists Y,x,o,Y,W.hx,1,Y,S,x,o,p,M,k,N,O,1,W,y;let⟨i,rfl,M⟩:=y.get;let l:k[i]?=⇑k[i]:=mS M;generalize k[i]=s at l;let⟨t,k,_,_,_,U,C,F⟩:=W.at' B l;let X:=F.len;let lo:=W.Qu.less i s l;let y:=R.2;refine⟨Y,x,cO,o,_,↥p,1,W.hx,D.dH.cl,D.lO,1,Y,p,E,↥t,V,bL.of B,cP (by rw[fK,k];rfl),?_⟩;refine⟨t,1,⟨_,bL.of C⟩,λc u=>gK (K:=bZ) (h:=t) (a:=U.map V.ref) (λk m a=>∃ (v:Option V) (b:WF),m=[v]/\a c=⇑(.lst (b.map V.ref))/\aJ H a/\cG (λr w=>H r=none/\r≠c/\b8 a ↥r w) b (s.take k)) ⟨none,[],1,af,ao u _,by rw[List.take_zero];exact .nil⟩ (λk m a _ ⟨Q,_,s0,_⟩=>bL.of (s0 _ _ C)) ?_ ?_⟩
 ·rintro k ag m a G ⟨v,b,rfl,f,d,g⟩;rw[fK]at G;let⟨ri,ab,rfl⟩:=Option.map_eq_some_iff.mp G;let⟨w,ae,k⟩:=F.get ab;let⟨o,vs,ec,hc,it⟩:=k.at';cases ec;refine⟨Y,ri,Y,.inl (bL.of (d _ _ hc)),λz j=>⟨_,ao j _ _ _ f,?_,_,b++[z],1,?_,?_,?_⟩⟩
  ·have:=g.len;rw[gm]at this;rw[cC];exact aN ∅
  ·rw[af,gP];rfl
  ·intro q k e;rw[aK (aA e u)];exact ao j _ _ _ (d _ _ e)
  ·let I:z≠c:=(aA f j).symm
   let J:∀ q k,a q=⇑k->q≠c->(aL (aL a z (.lst vs)) c (.lst (b.map V.ref++[↥z]))) q=⇑k:=λq k e k=>by
    rw[aK k];exact ao j _ _ _ e
   let L:∀ q n,a q=⇑(.tup n)->(aL (aL a z (.lst vs)) c (.lst (b.map V.ref++[↥z]))) q=⇑(.tup n):=λq n e=>J _ _ e (cS e f (by intro bu;cases bu));rw[take_snoc ae];refine cG.snoc (g.mono λr w ⟨o,k,p⟩=>⟨o,k,p.fr (λn e=>J _ _ e k) L⟩) ⟨aU d j,I,z,vs,1,?_,it.mono λk i ⟨q,e,j⟩=>⟨q,e,L _ _ (d _ _ j)⟩⟩;rw[aK I];exact af
 ·rintro m a ⟨v,b,rfl,f,d,g⟩;rw[cC,X,gU]at g;exact T i s rfl l c a ⟨u,b,f,g⟩ d
theorem fY:‹(4,48,["self"],(O9 cO))›:=λD=>by
 specialize fm ["self"] D.C3.F;let⟨S,x,d,b,c,a,i,rfl,W,e,k⟩:=h;let⟨j,l,m⟩:=id W.hs;let⟨n,o,f,_⟩:=W.pj;let p:↑a-1<↑a:=(List.getElem?_eq_some_iff.mp f).1;let p:=e.1;let p:((↑(j.map V.ref):Nat):Int)-1=((↑a-1:Nat):Int):=by rw[cC,m.len];lia
 exists _,#v[aM (cV (pv 0) D.dH D.hE (sZ D) hr bR #[gO (pv 0) D.dH D.Se (oH D) hr bR])]
 all_goals try dsimp only[aS,aH]
 exists Y,x,d,Y,W.hx,1,Y,x,d,Y,W.hx,1,x,d,b,c,Y,W.hx,l;rw[p];refine⟨S,x,d,b,c,a,i,Y,W,e,⟨by lia,by lia⟩,λb c d g q r s t=>?_⟩;have:b=↑a-1:=by lia
 subst this;rw[f]at g;cases g;exact k n o q r s t
class inductive J6(C:Addr)
 | mk (x d:Addr) (_:vs=[↥x]) (_:H x=⇑(.ins C d [])) (_: ∀ (b:List (Str × V)) (a:Hp),a x=⇑(.ins C d b)->cF x H a->Q .gc a)
theorem FE{x z:Addr}{H:Hp}{o a:HO}(b:H z=none):cF x H (aL (aL H z o) x a):=λc d e n=>by
 rw[aK n];exact ao b o c d e
theorem vP:‹(1,51,["self"],(J6 HS))›:=λD=>by
 specialize fm ["self"] D.hG.F;let⟨x,d,rfl,b,k⟩:=h;exists _,#v[iI (pv 0) mF rfl]
 all_goals try dsimp only[aS,aH]
 intro z a;exact⟨Y,x,HS,d,Y,ao a _ _ _ b,D.E3.cl,D.JG,by decide,k _ _ af (FE a)⟩
theorem vQ:‹(1,50,["self"],(J6 xA))›:=λD=>by
 specialize fm ["self"] D.hF.F;let⟨x,d,rfl,c,k⟩:=h;exists _,#v[iI (pv 0) az rfl,iI (pv 0) mF rfl]
 all_goals try dsimp only[aS,aH]
 refine⟨Y,x,xA,d,Y,c,D.BY.cl,D.CH,by decide,?_⟩;let a:cF x H (aL H x (.ins xA d (_L2.eY "given" (.int 0) []))):=aG x _ _;let b:(aL H x (.ins xA d (_L2.eY "given" (.int 0) []))) x=⇑(.ins xA d (_L2.eY "given" (.int 0) [])):=af;generalize aL H x (.ins xA d (_L2.eY "given" (.int 0) []))=c at a b;intro z c;exact⟨Y,x,xA,d,Y,ao c _ _ _ b,D.BY.cl,D.CJ,(by show 1<1000;decide),k _ _ af (a.trans (FE c))⟩
def Pa(a:gG):List V:=a.map λp=>qu p.2
def Ju(a:gG):List V:=a.map λp=>V.int p.1
def oJ(h:Int)(a:List Nat):gG:=a.map λc=>(h,c)
theorem qS(h:Int)(a:List Nat):↑(oJ h a)=↑a:=cC ..
def SM(a:gG)(h:Int)(b:List Nat):Pa (a++oJ h b)=Pa a++b.map qu:=by
 unfold Pa oJ;rw[gP,List.map_map];rfl
theorem Di(v:V):∀ n:Nat,(List.replicate n [v]).flatten=List.replicate n v
 | 0=>rfl
 | n+1=>by rw[List.replicate_succ,List.flatten_cons,Di v n,List.replicate_succ];rfl
def SN(a:gG)(h:Int)(b:List Nat):Ju (a++oJ h b)=Ju a++(List.replicate ↑b [V.int h]).flatten:=by
 rw[Di];unfold Ju oJ;rw[gP,List.map_map];congr 1;exact List.map_eq_replicate_iff.mpr λc _=>rfl
def lC(h:Int):Nat->gG->List Int
 | _,[]=>[]
 | i,p::r=>if p.1=h then (i:Int)::lC h (i+1) r else lC h (i+1) r
theorem mP(h:Int):∀ (a b:gG) (i:Nat),lC h i (a++b)=lC h i a++lC h (i+↑a) b
 | [],b,i=>rfl
 | p::a,b,i=>by
  rw[List.cons_append,lC,lC,fE,mP h a b (i+1),show i+1+↑a=i+(↑a+1) by lia]
  split <;> rfl
theorem vR(h:Int):∀ (a:List Nat) (i:Nat),lC h i (oJ h a)=run (i:Int) ↑a
 | [],i=>rfl
 | c::a,i=>by
  show lC h i ((h,c)::oJ h a)=_;rw[lC,if_pos rfl,vR h a (i+1),fE,run,show ((i+1:Nat):Int)=(i:Int)+1 by lia]
theorem mQ{h g:Int}(n:g≠h):∀ (a:List Nat) (i:Nat),lC h i (oJ g a)=[]
 | [],i=>rfl
 | c::a,i=>by
  show lC h i ((g,c)::oJ g a)=_;rw[lC,if_neg n,mQ n a (i+1)]
def zO(a b:Int)(k:Nat)(e:b=a+k):bC [(a,b)]=run a k:=by
 show gx (a,b)++[]=_;rw[gV];show run a (b-a).toNat=_;rw[show (b-a).toNat=k by lia]
structure Pw(S:Y1)(H:Hp)(s o:Addr)(n:Nat)(kvs:List (fR × V))(aF:gG):Prop where
 got:∀ h v,cI kvs (Sum.inl h)=⇑v->∃ (l:Addr) (row:Row),v=↥l/\S l/\l≠s/\l≠o/\bV H l row/\(∀ p∈row,p.1<=p.2)/\bC row=lC h 0 aF/\↑row<=n
 gc:∀ h,cI kvs (Sum.inl h)=none->lC h 0 aF=[]
 one:∀ h g v,cI kvs (Sum.inl h)=⇑v->cI kvs (Sum.inl g)=⇑v->h=g
 len:↑kvs<=n
structure We(C:Addr)(S:Y1)(H:Hp)(x d s o p:Addr)(n:Nat)(aF:gG):Prop where
 sx:S x
 ss:S s
 so:S o
 sp:S p
 al:∀ a,S a->∃ ob,H a=⇑ob
 hx:H x=⇑(.ins C d [("signs",↥s),("owners",↥o),("pourings",↥p)])
 hs:H s=⇑(.lst (Pa aF))
 ho:H o=⇑(.lst (Ju aF))
 ne:s≠o
 dk:∃ kvs,H p=⇑(.dK kvs)/\Pw S H s o n kvs aF
def bV.two{H b:Hp}{r:Addr}{c:Row}(h:bV H r c)(k:∀ a,H r=⇑(.lst a)->b r=⇑(.lst a))(t:∀ d a,H d=⇑(.tup a)->b d=⇑(.tup a)):bV b r c:=by
 let⟨e,f,g⟩:=h;exact⟨e,k _ f,g.tups t⟩
def We.fr{d:Y1}{H e:Hp}{x i s o p:Addr}{n:Nat}{j:gG}(h:We C d H x i s o p n j)(k:∀ a b,H a=⇑b->d a->e a=⇑b)(t:∀ a f,H a=⇑(.tup f)->e a=⇑(.tup f)):We C d e x i s o p n j:=by
 let⟨sx,ss,so,sp,al,hx,hs,ho,ne,g,l,c⟩:=h;refine⟨sx,ss,so,sp,λa z=>?_,k _ _ hx sx,k _ _ hs ss,k _ _ ho so,ne,g,k _ _ l sp,λh v g=>?_,c.gc,c.one,c.len⟩
 ·let⟨b,g⟩:=al a z;exact⟨b,k _ _ g z⟩
 ·let⟨m,q,r,l,u,w,y,z⟩:=c.got h v g;exact⟨m,q,r,l,u,w,y.two (λf q=>k _ _ q l) t,z⟩
theorem We.same{a:Y1}{H b:Hp}{x d s o p:Addr}{n:Nat}{c:gG}(h:We C a H x d s o p n c)(k:aJ H b):We C a b x d s o p n c:=h.fr (λf g e _=>k f g e) (λf f e=>k _ _ e)
theorem J7(a:gG):↑(Pa a)=↑a:=cC ..
theorem SO(a:gG):↑(Ju a)=↑a:=cC ..
def Pb{H:Hp}{a:Addr}{b:HO}(h:H a=⇑b):aL H a b=H:=by
 funext c;by_cases e:c=a
 ·rw[e,af,h]
 ·rw[aK e]
class inductive SQ(C:Addr)
 | mk (x d:Addr) (_:vs=[↥x]) (_:H x=⇑(.ins C d [])) (_: ∀ (s o p:Addr) (b:Hp),We C (λa=>a=x\/a=s\/a=o\/a=p) b x d s o p 0 []->cF x H b->H s=none->H o=none->H p=none->Q .gc b)
class inductive SR(C:Addr)
 | mk (x d s o p:Addr) (a:gG) (_:vs=[↥x]) (_:H x=⇑(.ins C d [("signs",↥s),("owners",↥o),("pourings",↥p)])) (_:H s=⇑(.lst (Pa a))) (_:Q (.int (↑a:Nat)) H)
class inductive Xg(C:Addr)
 | mk (e:Y1) (x f s o p:Addr) (n:Nat) (b:gG) (h:Int) (d:List Nat) (_:vs=[↥x,.int h,.str (dY d)]) (_:We C e H x f s o p n b) (_:↑b+↑d<=100000) (_:n<=1000) (_ :
 ∀ (g:Y1) (q:Addr) (c:Hp),We C g c x f s o p (n+1) (b++oJ h d)->c q=⇑(.tup [.int (↑b:Nat),.int (↑(b++oJ h d):Nat)])->(∀ a,g a->e a\/H a=none)->(∀ a i,H a=⇑i->¬ e a->c a=⇑i)->(∀ a j,H a=⇑(.tup j)->c a=⇑(.tup j))->Q ↥q c)
theorem vS:‹(1,52,["self"],(SQ dc))›:=λD=>by
 specialize fm ["self"] D.hH.F;let⟨x,d,rfl,t,B⟩:=h;exists _,#v[iI (pv 0) (bJ ah) rfl,iI (pv 0) (bJ ah) rfl,iI (pv 0) mF rfl]
 all_goals try dsimp only[aS,aH]
 refine⟨iy,λs0 r=>?_⟩;let b:aJ H (aL H s0 (.lst [])):=ao r _;let u:(aL H s0 (.lst [])) s0=⇑(.lst []):=af;generalize aL H s0 (.lst [])=i at b u;refine⟨Y,x,dc,d,Y,b _ _ t,D.iN.cl,D.sH,by decide,?_⟩;let c:cF x i (aL i x (.ins dc d (_L2.eY "signs" ↥s0 []))):=aG x _ _;let p:(aL i x (.ins dc d (_L2.eY "signs" ↥s0 []))) x=⇑(.ins dc d [("signs",↥s0)]):=af;generalize aL i x (.ins dc d (_L2.eY "signs" ↥s0 []))=j at c p;let k:s0≠x:=(aA t r).symm;let v:=c _ _ u k;refine⟨iy,λo l=>?_⟩;let f:aJ j (aL j o (.lst [])):=ao l _;let w:(aL j o (.lst [])) o=⇑(.lst []):=af;generalize aL j o (.lst [])=m at f w;refine⟨Y,x,dc,d,Y,f _ _ p,D.iN.cl,D.ug,(by show 1<1000;decide),?_⟩;let g:cF x m (aL m x (.ins dc d (_L2.eY "owners" ↥o [("signs",↥s0)]))):=aG x _ _;let s:(aL m x (.ins dc d (_L2.eY "owners" ↥o [("signs",↥s0)]))) x=⇑(.ins dc d [("signs",↥s0),("owners",↥o)]):=af;generalize aL m x (.ins dc d (_L2.eY "owners" ↥o [("signs",↥s0)]))=i at g s;let n:o≠x:=(aA p l).symm;let y:=g _ _ w n;let z:=g _ _ (f _ _ v) k;intro p a;let q:p≠x:=(aA s a).symm;refine⟨Y,x,dc,d,Y,ao a _ _ _ s,D.iN.cl,D.lV,(by show 2<1000;decide),?_⟩
 let C:cF x H (aL (aL i p (.dK [])) x (.ins dc d (_L2.eY "pourings" ↥p [("signs",↥s0),("owners",↥o)]))):=λF i e d=>by
  rw[aK d];exact ao a _ _ _ (g _ _ (f _ _ (c _ _ (b _ _ e) d)) d)
 refine B s0 o p _ ⟨.inl rfl,.inr (.inl rfl),.inr (.inr (.inl rfl)),.inr (.inr (.inr rfl)),λF G=>?_,af,?_,?_,aA v l,[],?_,?_⟩ C r ?_ ?_
 ·rcases G with rfl|rfl|rfl|rfl
  ·exact⟨_,af⟩
  ·exact⟨_,by rw[aK k];exact ao a _ _ _ z⟩
  ·exact⟨_,by rw[aK n];exact ao a _ _ _ y⟩
  ·exact⟨_,by rw[aK q];exact af⟩
 ·rw[aK k];exact ao a _ _ _ z
 ·rw[aK n];exact ao a _ _ _ y
 ·rw[aK q];exact af
 ·exact⟨λh I e=>(by cases e),λh e=>rfl,λh d I e=>(by cases e),fH _⟩
 ·exact aU b (iS c n l)
 ·exact aU b (iS c q (aU f (iS g q a)))
theorem jL:‹(1,53,["self"],(SR dc))›:=λD=>by
 specialize fm ["self"] D.LH.F;let⟨x,d,s0,o,p,c,rfl,a,b,k⟩:=h;exists _,#v[aM (gg D.T.eV (cY (pv 0) rfl))]
 all_goals try dsimp only[aS,aH]
 exists Y,x,dc,d,_,↥s0,1,a,D.iN.cl,D.sH,1,s0,Y,.inl (bL.of b);rw[J7];exact k
theorem Dj:‹(2,54,["self","hand","text"],(Xg dc))›:=λD=>by
 specialize fm ["self","hand","text","start","stretch"] D.hJ.F;let⟨ag,x,r,s0,o,p,aB,b,h,c,rfl,W,aO,nn,ak⟩:=h;let hu:=gR hr;exists _,#v[aX 3 (gO (pv 0) D.iN D.LH (jL D) hr bR),vf (pv 0) (fZ (AF rfl) rfl D.T.jI tM #[2]) HF,vf (pv 0) (bx Nr (bJ #[1]) (bU ic rfl D.T.eV PySem.boot_len #[2])) HF,aX 4 (cZ #[3,gO (pv 0) D.iN D.LH (jL D) hr bR]),aT (dX n8 jt ju bT (Ou (cY (pv 0) rfl) (pv 1) (bJ ah) ⟨V,V⟩) #[4]),aM (pv 4)]
 all_goals try dsimp only[aS,aH]
 exists Y,x,r,Y,W.hx,1,x,r,s0,o,p,b,1,W.hx,W.hs;let⟨sx,R,S,sp,al,F,T,U,ne,B,G,s⟩:=id W;let am:x≠s0:=cS F T;let au:x≠o:=cS F U;let av:x≠p:=cS F G;let an:p≠s0:=cS G T;let ap:p≠o:=cS G U;refine⟨Y,x,dc,r,_,↥s0,1,F,D.iN.cl,D.sH,1,Y,c,1,gn (aN ∅),λX ht=>?_⟩;let a1:aJ H (aL H X (.lst (c.map qu))):=ao ht _;let b1:(aL H X (.lst (c.map qu))) X=⇑(.lst (c.map qu)):=af;generalize aL H X (.lst (c.map qu))=H1 at a1 b1;refine⟨s0,X,Z,a1 _ _ T,b1,(by rw[J7,cC];exact gn (aN ∅)),?_⟩;rw[← SM b h c];let k2:cF s0 H1 (aL H1 s0 (.lst (Pa (b++oJ h c)))):=aG s0 _ _;let s2:(aL H1 s0 (.lst (Pa (b++oJ h c)))) s0=⇑(.lst (Pa (b++oJ h c))):=af;generalize aL H1 s0 (.lst (Pa (b++oJ h c)))=I at k2 s2;let aq:cF s0 H I:=λa d e m=>k2 _ _ (a1 _ _ e) m;have X:=aq _ _ F am;refine⟨r,_,X,(by show 3<1000;decide),?_⟩;have J:aL I x (.ins dc r (_L2.eY "signs" ↥s0 ([("signs",↥s0),("owners",↥o),("pourings",↥p)]:List (Str × V))))=I:=Pb X;rw[J];refine⟨Y,x,dc,r,_,↥o,1,X,D.iN.cl,D.ug,1,Y,kH,λt2 X=>?_⟩;have a3:aJ I (aL I t2 (.lst [.int h])):=ao X _;have b3:(aL I t2 (.lst [.int h])) t2=⇑(.lst [.int h]):=af;generalize aL I t2 (.lst [.int h])=H3 at a3 b3;refine⟨Y,dY c,1,(by rw[eZ];exact gn (aN ∅)),?_⟩;rw[eZ];refine⟨t2,Z,b3,by lia,by lia,(by simp only[nC];exact gn (aN ∅)),λt3 I=>?_⟩;rw[Int.toNat_natCast];have a4:aJ H3 (aL H3 t3 (.lst (List.replicate ↑c [V.int h]).flatten)):=ao I _;have b4:(aL H3 t3 (.lst (List.replicate ↑c [V.int h]).flatten)) t3=⇑(.lst (List.replicate ↑c [V.int h]).flatten):=af;generalize aL H3 t3 (.lst (List.replicate ↑c [V.int h]).flatten)=H4 at a4 b4;have UP:cF s0 H H4:=λa d e m=>a4 _ _ (a3 _ _ (aq _ _ e m));refine⟨o,t3,Z,UP _ _ U ne.symm,b4,(by rw[SO,Di,xo];exact gn (aN ∅)),?_⟩;rw[← SN b h c];have k5:cF o H4 (aL H4 o (.lst (Ju (b++oJ h c)))):=aG o _ _;have o5:(aL H4 o (.lst (Ju (b++oJ h c)))) o=⇑(.lst (Ju (b++oJ h c))):=af;generalize aL H4 o (.lst (Ju (b++oJ h c)))=C at k5 o5;have ab:∀ a d,H a=⇑d->a≠s0->a≠o->C a=⇑d:=λa d e m m2=>k5 _ _ (UP _ _ e m) m2;have L:=ab _ _ F am au;have s5:=k5 _ _ (a4 _ _ (a3 _ _ s2)) ne;refine⟨r,_,L,(by show 3<1000;decide),?_⟩;have e5:aL C x (.ins dc r (_L2.eY "owners" ↥o ([("signs",↥s0),("owners",↥o),("pourings",↥p)]:List (Str × V))))=C:=Pb L;rw[e5]
 let T6:∀ q,C q=none->H q=none:=λq w=>by
  cases e:H q with
  | none=>rfl
  | some d =>
   by_cases i:q=s0
   ·rw[i,s5]at w;cases w
   by_cases k:q=o
   ·rw[k,o5]at w;cases w
   rw[ab _ _ e i k]at w;cases w
 exists Y,Y,x,r,Y,L,1,x,r,s0,o,p,Y,L,s5;refine⟨mT,λq w=>?_⟩;let n:aJ C (aL C q (.tup [.int (↑b:Nat),.int (↑(b++oJ h c):Nat)])):=ao w _;let b6:(aL C q (.tup [.int (↑b:Nat),.int (↑(b++oJ h c):Nat)])) q=⇑(.tup [.int (↑b:Nat),.int (↑(b++oJ h c):Nat)]):=af;generalize aL C q (.tup [.int (↑b:Nat),.int (↑(b++oJ h c):Nat)])=M at n b6;let p6:=n _ _ (ab _ _ G an ap);let GH:∀ q,M q=none->H q=none:=λq w=>T6 q (aU n w);refine⟨Y,x,dc,r,_,↥p,1,n _ _ L,D.iN.cl,D.lV,1,p,1,.inl ⟨_,.inl p6⟩,Y,iy,λz hz=>?_⟩;have t:aJ M (aL M z (.lst [])):=ao hz _;have b7:(aL M z (.lst [])) z=⇑(.lst []):=af;generalize aL M z (.lst [])=u at t b7;have r:=s.len;refine⟨B,Sum.inl h,t _ _ p6,1,aN ∅,λv O=>?_,λO=>?_⟩
 ·let⟨l,row,rfl,Sl,ls,lo,⟨as,r,pa⟩,ok,ar,rl⟩:=s.got h v O;let ae:∀ a d,H a=⇑d->a≠s0->a≠o->u a=⇑d:=λa d e m m2=>t _ _ (n _ _ (ab _ _ e m m2));have l7:=ae _ _ r ls lo;have aw:x≠l:=cS F r;have ax:p≠l:=cS G r;have r:=pa.len;refine⟨.inl ⟨1,_,bL.of l7⟩,Y,l,Z,l7,(by rw[cC];exact aN ∅),?_⟩;have j:cF l u (aL u l (.lst (as.map V.ref++[↥q]))):=aG l _ _;have l8:(aL u l (.lst (as.map V.ref++[↥q]))) l=⇑(.lst (as.map V.ref++[↥q])):=af;generalize aL u l (.lst (as.map V.ref++[↥q]))=N at j l8;have ai:∀ a f,H a=⇑(.tup f)->u a=⇑(.tup f):=λa f e=>ae _ _ e (cS e T) (cS e U);have Xh:∀ a f,u a=⇑(.tup f)->N a=⇑(.tup f):=λa f e=>j _ _ e (cS e l7);have r:=j _ _ (t _ _ (n _ _ s5)) ls.symm;have w:=j _ _ (t _ _ (n _ _ o5)) lo.symm;refine⟨Y,ak ag q N ⟨sx,R,S,sp,λa z=>?_,j _ _ (t _ _ (n _ _ L)) aw,r,w,ne,B,j _ _ (t _ _ p6) ax,λg v e=>?_,λg e=>?_,s.one,by lia⟩ (Xh _ _ (t _ _ b6)) (λa z=>.inl z) (λa d e m=>?_) (λa f e=>Xh _ _ (ai _ _ e))⟩
  ·by_cases i:a=s0
   ·rw[i];exact⟨_,r⟩
   by_cases k:a=o
   ·rw[k];exact⟨_,w⟩
   by_cases y:a=l
   ·rw[y];exact⟨_,l8⟩
   let⟨d,e⟩:=al a z;exact⟨d,j _ _ (ae _ _ e i k) y⟩
  ·by_cases i:g=h
   ·subst i;rw[O]at e;cases e;exists l,row++([(((↑b:Nat):Int),((↑(b++oJ g c):Nat):Int))]:Row),1,Sl,ls,lo,⟨as++[q],by rw[gP];exact l8,?_⟩,?_,?_
    ·exact bG.append (pa.tups λa f e=>Xh _ _ (ai _ _ e)) (.cons (b:=(((↑b:Nat):Int),((↑(b++oJ g c):Nat):Int))) (Xh _ _ (t _ _ b6)) .nil)
    ·intro k hr;rcases List.mem_append.mp hr with z|z
     ·exact ok k z
     ·rw[List.mem_singleton.mp z];show ((↑b:Nat):Int)<=(↑(b++oJ g c):Nat);rw[dh];lia
    ·rw[cQ,ar,mP,vR,Nat.zero_add];congr 1;refine zO _ _ _ ?_;rw[dh,qS];lia
    ·rw[dh];simp only[nC];lia
   ·let⟨k,ET,y,e2,J,e4,e5,e6,e7,e8⟩:=s.got g v e;subst y;let r:k≠l:=λz=>i (s.one g h _ e (by rw[z];exact O));refine⟨k,ET,1,e2,J,e4,e5.two (λf q=>j _ _ (ae _ _ q J e4) r) (λa f e=>Xh _ _ (ai _ _ e)),e6,?_,by lia⟩;rw[e7,mP,mQ (λz=>i z.symm),gV]
  ·let i:g≠h:=λz=>by rw[z,O]at e;cases e
   rw[mP,s.gc g e,mQ (λz=>i z.symm),gV]
  ·let i:a≠s0:=λz=>m (by rw[z];exact R);have k:a≠o:=λz=>m (by rw[z];exact S);have y:a≠l:=λz=>m (by rw[z];exact Sl);exact j _ _ (ae _ _ e i k) y
 ·let fz:H z=none:=GH z hz;let p7:=t _ _ p6;let j:cF p u (aL u p (.dK (fk B (Sum.inl h) ↥z))):=aG p _ _;let p8:(aL u p (.dK (fk B (Sum.inl h) ↥z))) p=⇑(.dK (fk B (Sum.inl h) ↥z)):=af;generalize aL u p (.dK (fk B (Sum.inl h) ↥z))=N at j p8;let r:=j _ _ b7 (cS b7 p7);refine⟨.inl ⟨1,_,bL.of r⟩,Y,z,Z,r,(by show 0<sizeLine;decide),?_⟩;let k9:cF z N (aL N z (.lst ([]++[↥q]))):=aG z _ _;let z9:(aL N z (.lst ([]++[↥q]))) z=⇑(.lst ([]++[↥q])):=af;generalize aL N z (.lst ([]++[↥q]))=r at k9 z9;let u:∀ a d,M a=⇑d->a≠p->r a=⇑d:=λa d e m=>k9 _ _ (j _ _ (t _ _ e) m) (aA e hz);have Xi:∀ a d,H a=⇑d->a≠s0->a≠o->a≠p->r a=⇑d:=λa d e m m2 j=>u _ _ (n _ _ (ab _ _ e m m2)) j;have ai:∀ a f,M a=⇑(.tup f)->r a=⇑(.tup f):=λa f e=>u _ _ e (cS e p6);have ar:∀ a f,H a=⇑(.tup f)->r a=⇑(.tup f):=λa f e=>Xi _ _ e (cS e T) (cS e U) (cS e G);have s9:=u _ _ (n _ _ s5) an.symm;have o9:=u _ _ (n _ _ o5) ap.symm;have p9:=k9 _ _ p8 (cS p7 b7)
  let nz:∀ a,ag a->a≠z:=λa j=>by
   let⟨d,e⟩:=al a j;exact aA e fz
  refine⟨Y,ak (λa=>ag a\/a=z) q r ⟨.inl sx,.inl R,.inl S,.inl sp,λa bu=>?_,u _ _ (n _ _ L) av,s9,o9,ne,_,p9,λg v e=>?_,λg e=>?_,λg g' v e l=>?_,(by have:=iL B (Sum.inl h:fR) (V.ref z);lia)⟩ (ai _ _ b6) (λa bu=>bu.imp id λae=>by rw[ae];exact fz) (λa d e m=>?_) (λa f e=>ar _ _ e)⟩
  ·rcases bu with bu|bu
   ·by_cases i:a=s0
    ·rw[i];exact⟨_,s9⟩
    by_cases k:a=o
    ·rw[k];exact⟨_,o9⟩
    by_cases y:a=p
    ·rw[y];exact⟨_,p9⟩
    let⟨d,e⟩:=al a bu;exact⟨d,Xi _ _ e i k y⟩
   ·rw[bu];exact⟨_,z9⟩
  ·rw[kF]at e;by_cases i:g=h
   ·subst i;rw[if_pos rfl]at e;cases e;exists z,([(((↑b:Nat):Int),((↑(b++oJ g c):Nat):Int))]:Row),1,.inr rfl,(nz _ R).symm,(nz _ S).symm,⟨[q],z9,.cons (ai _ _ b6) .nil⟩,?_,?_
    ·intro k hr;rw[List.mem_singleton.mp hr];show ((↑b:Nat):Int)<=(↑(b++oJ g c):Nat);rw[dh];lia
    ·rw[mP,s.gc g O,vR,Nat.zero_add,List.nil_append];refine zO _ _ _ ?_;rw[dh,qS];lia
    ·simp only[nC];lia
   ·rw[if_neg (λz=>i (Sum.inl.inj z))]at e;let⟨k,ET,y,e2,J,e4,e5,e6,e7,e8⟩:=s.got g v e;subst y;refine⟨k,ET,1,.inl e2,J,e4,e5.two (λf q=>Xi _ _ q J e4 (cS q G)) (λa f e=>ar _ _ e),e6,?_,by lia⟩;rw[e7,mP,mQ (λz=>i z.symm),gV]
  ·rw[kF]at e;let i:g≠h:=λz=>by rw[z,if_pos rfl]at e;cases e
   rw[if_neg (λz=>i (Sum.inl.inj z))]at e;rw[mP,s.gc g e,mQ (λz=>i z.symm),gV]
  ·let gr:∀ g v,g≠h->cI B (Sum.inl g)=⇑v->v≠.ref z:=λg v i e ae=>by
    let⟨k,ET,y,e2,_⟩:=s.got g v e;rw[y]at ae;cases ae;exact nz _ e2 rfl
   rw[kF]at e l;by_cases i:g=h
   ·by_cases k:g'=h
    ·rw[i,k]
    ·rw[i,if_pos rfl]at e;rw[if_neg (λz=>k (Sum.inl.inj z))]at l;cases e;exact absurd rfl (gr _ _ k l)
   ·rw[if_neg (λz=>i (Sum.inl.inj z))]at e;by_cases k:g'=h
    ·rw[k,if_pos rfl]at l;cases l;exact absurd rfl (gr _ _ i e)
    ·rw[if_neg (λz=>k (Sum.inl.inj z))]at l;exact s.one _ _ _ e l
  ·let i:a≠s0:=λz=>m (by rw[z];exact R);have k:a≠o:=λz=>m (by rw[z];exact S);have y:a≠p:=λz=>m (by rw[z];exact sp);exact Xi _ _ e i k y
def FF(a:List V){p q:Int}(h:0<=p)(g:0<=q):ir a (⇑p) (⇑q)=(a.take q.toNat).drop p.toNat:=by
 unfold ir
 let e:∀ r:Int,0<=r->∀ d,_HT.gH ↑a d (⇑r)=min r.toNat ↑a:=λr b d=>by
  show (if r<0 then (r+(↑a:Int)).toNat else min r.toNat ↑a)=_;rw[if_neg ∅]
 rw[e p h,e q g,List.drop_take];rcases Nat.le_total p.toNat ↑a with z|z
 ·rw[Nat.min_eq_left z];rcases Nat.le_total q.toNat ↑a with y|y
  ·rw[Nat.min_eq_left y]
  ·rw[Nat.min_eq_right y,pO (by rw[l9];lia),pO (by rw[l9];lia)]
 ·rw[Nat.min_eq_right z,xm (fH _),xm z];simp
def MQ(n:Nat)(p:Int × Int):Bool:=decide (0<=p.1)&&decide (p.1<p.2)&&decide (p.2<=(n:Int))
def oK(n:Nat)(a:Row):Bool:=a.all (MQ n)
class inductive SS(C:Addr)
 | mk (d:Y1) (x e s o p r:Addr) (n:Nat) (b:gG) (a:Row) (_:vs=[↥x,↥r]) (_:We C d H x e s o p n b) (_:bV H r a) (_:↑a<=1000) (_: ∀ c,aJ H c->Q (.bl (oK ↑b a)) c)
theorem AU:‹(2,55,["self","row"],(SS dc))›:=λD=>by
 specialize fm ["self","row"] D.hP.F;let⟨S,x,o,s0,t,w,r,j,b,e,rfl,W,R,v,y⟩:=h;refine⟨_,#v[aM (bU (Lx rfl) rfl D.T.ZS PyProof.Rows.boot_all #[gS (N:=["start","stop","self"]) (kG (c:=cB qd) (f:=["self","row"]) (d:=[none,none,some 0]) rfl rfl rfl nofun nofun rfl nofun rfl nofun) rfl (cM (pv 1)) (λ_ _ _ _ _ _=>(qI (n:=2) rfl (bS (bX 0) (bS (bX 1) gB)))) (λ_ _ _ _ _ _=>gQ) (λ_ _ _ _ _ _=>(Ly gC jR gC az (pv 0) (pv 1) (gO (pv 2) D.iN D.LH (jL D) hr bR)))])],?_⟩
 all_goals try dsimp only[aS,aH]
 let⟨v,j,p⟩:=id R;let z:=p.len;refine⟨Y,r,1,⟨_,bL.of j⟩,λc s=>gK (K:=bZ) (h:=r) (a:=v.map V.ref) (λi f a=>∃ u bu:Option V,f=[u,bu,⇑↥x]/\a c=⇑(.lst (((e.take i).map (MQ ↑b)).map V.bl))/\aJ H a) ⟨none,none,1,af,ao s _⟩ (by rintro i f a _ ⟨_,_,_,_,s0⟩;exact bL.of (s0 _ _ j)) ?_ ?_⟩
 ·rintro i F f a q ⟨u,bu,rfl,g,d⟩;rw[fK]at q;let⟨B,C,rfl⟩:=Option.map_eq_some_iff.mp q;let⟨q,r,j⟩:=j5 p C;let l:=W.same d;exists B,Y,dO.of (d _ _ j),1,E,1,Z
  let m:∀ v:Bool,MQ ↑b q=v->∃ j,a c=⇑(.lst j)/\↑j<sizeLine/\∃ u bu:Option V,[⇑(V.int q.1),⇑(V.int q.2),⇑↥x]=[u,bu,⇑↥x]/\(aL a c (.lst (j++[.bl v]))) c=⇑(.lst (((e.take (i+1)).map (MQ ↑b)).map V.bl))/\aJ H (aL a c (.lst (j++[.bl v]))):=λv i=>by
   exists _,g,?_,E,1,?_
   ·rw[cC,cC,gm];exact aN ∅
   ·rw[af,take_snoc r,gP,gP,← i];rfl
   ·intro i j k;rw[aK (aA k s)];exact d _ _ k
  refine⟨Y,Z,Y,dM (λk=>?_) (λk=>m false ?_)⟩
  ·refine⟨Y,Z,Y,dM (λn=>?_) (λn=>m false ?_)⟩
   ·refine⟨Y,x,o,Y,l.hx,1,x,o,s0,t,w,b,1,l.hx,l.hs,Z,m _ ?_⟩;unfold MQ;rw[k,n];rfl
   ·unfold MQ;rw[k,Bool.eq_false_iff.mpr n];rfl
  ·unfold MQ;rw[Bool.eq_false_iff.mpr k];rfl
 ·rintro f a ⟨u,bu,rfl,g,d⟩;rw[cC,z,gU]at g;exists c,Y,bL.of g
  let k:(e.map (MQ ↑b)).all id=oK ↑b e:=by
   unfold oK;rw[List.all_map];rfl
  rw[k];exact y a d
def CO.j9{a:dB}(h:CO a){s:Int}:¬ Reach (jS a) s s:=by
 let⟨b,_,c⟩:=h
 let d:∀ g,Reach (jS a) s g->b g<b s:=by
  intro g r
  induction r with
  | one e=>exact c _ _ e
  | step _ e b=>exact Nat.lt_trans (c _ _ e) b
 exact λz=>Nat.lt_irrefl _ (d s z)
structure mR(rows:dB)(f:Int->Int):Prop where
 len:↑rows<=100
 es:∀ es∈rows,↑es<=1000
 sd:gT rows
 rk:CO rows
 wt:Weighs rows f
 most:∀ x:Int,0<=x->x<↑rows->f x<=200
class inductive Pc
 | mk (r:Addr) (a:dB) (s:Int) (f:Int->Int) (_:vs=[↥r,.int s]) (_:iu H r (a.map aI)) (_:mR a f) (_:0<=s) (_:s<↑a) (_: ∀ b,aJ H b->Q .gc b)
theorem zP:‹(4,56,["rows","sheet"],Pc)›:=λD=>by
 specialize fm ["rows","sheet","way","weights","number"] D.hT.F;let⟨r,a,s,j,rfl,c,B,l,m,q⟩:=h;let n:=gR hr;let⟨t,v⟩:=D.G.w;let y:=B.len;exists _,#v[aX 2 (aC D.Z1 (Sv D) hr #[0,1]),bO (Cw (QI (pv 2))) #v[iG] bg,aX 3 (aC D.Z3 (vI D) hr #[0,fZ (rQ rfl) rfl D.T.jI tM #[fZ CM rfl D.T.iX PyProof.Rows.boot_range #[gg D.T.eV (pv 0)]]]),eX PassesOwn.never rfl (iA rfl D.T.iX #[gg D.T.eV (pv 0)]) (bX 4) #v[bO (aV Bg (gu n (pv 3) (pv 4)) (Cv (v:=.int 200) rfl v ⟨t,1⟩) (bh _)) #v[iG] bg]]
 all_goals try dsimp only[aS,aH]
 refine⟨Y,Y,r,s,1,r,a,s,s,1,c,by lia,B.es,B.sd,l,m,B.rk.j9,λk l=>?_⟩;refine⟨Y,false,1,gp ?_⟩;let m:=c.same l;let⟨vs,n,t⟩:=id m;let m:↑vs=↑a:=by rw[t.len,cC]
 refine⟨Y,Y,r,Y,.inl (bL.of n),Y,λd t=>⟨d,E,1,af,⟨by lia,by lia,by lia,by lia⟩,gn (aN ∅),λL n=>?_⟩⟩;rw[yW,m,show ((↑a:Int)-0).toNat=↑a by lia];rw[m]at n;let e:=l.trans ((ao t (.D5 0 ((↑a:Nat):Int))).trans (ao n (.lst ((run 0 ↑a).map V.int))));let o:(aL (aL k d (.D5 0 ((↑a:Nat):Int))) L (.lst ((run 0 ↑a).map V.int))) L=⇑(.lst ((run 0 ↑a).map V.int)):=af;generalize aL (aL k d (.D5 0 ((↑a:Nat):Int))) L (.lst ((run 0 ↑a).map V.int))=d at e o;refine⟨r,L,a,run 0 ↑a,j,1,c.same e,o,by rw[JT];lia,by lia,B.es,B.sd,B.rk,(λx b=>by have:=Oc b;lia),B.wt,λS k d l w m _=>?_⟩;let d:=e.trans m;let⟨e,m,n⟩:=c.same d;let c:↑e=↑a:=by rw[n.len,cC]
 refine⟨Y,r,Y,.inl (bL.of m),Y,by lia,by lia,?_⟩;refine jW (lo:=0) (n:=((↑e:Nat):Int).toNat) (λi f b=>∃ u:Option V,f=[⇑↥r,⇑(.int s),⇑.gc,⇑↥S,u]/\aJ H b/\b S=⇑(.dK k)) ⟨none,1,d,l⟩ ?_ ?_
 ·rintro i f b C ⟨u,rfl,g,p⟩;let x:i<↑a:=by lia
  let z:=gW.k (k:=Sum.inl (0+(i:Int))) p;rw[w (0+(i:Int)) (by rw[show (0:Int)+(i:Int)=0+i from rfl];exact lK (JP 0 ↑a i x))]at z;exists Y,Y,S,Y,z,Z,Y;rw[decide_eq_false (show ¬ j (0+(i:Int)) > 200 from λy=>by have:=B.most (0+(i:Int)) ∅ ∅;lia)];exact gp ⟨Y,g,p⟩
 ·rintro f b ⟨u,rfl,g,_⟩;exact q b g
structure gY(C CS:Addr)(S:Y1)(H:Hp)(x d wl sh bl kn du bk dS st op:Addr)(bQ:lS)(ops:Wp)(aB:iD):Prop where
 hx:H x=⇑(.ins C d [("well",↥wl),("shelf",↥sh),("blots",↥bl),("knots",↥kn),("dues",↥du),("book",↥bk)])
 W:Sh CS S H sh dS st op bQ ops
 hb:H bk=⇑(ly aB)
 nx:¬ S x
 nb:¬ S bk
def Fr(b e:Y1)(f:Addr)(H c:Hp):Prop:=(∀ a,e a->b a\/H a=none)/\(∀ a d,H a=⇑d->¬ b a->a≠f->c a=⇑d)/\∀ a d,H a=⇑(.tup d)->c a=⇑(.tup d)
theorem Fr.same{b c:Y1}{d:Addr}{g H h:Hp}(s:aJ g H)(f:Fr b c d H h):Fr b c d g h :=
 ⟨λa z=>(f.1 a z).imp id λy=>aU s y,λa i e j k=>f.2.1 a i (s _ _ e) j k,λa i e=>f.2.2 a i (s _ _ e)⟩
theorem gY.same{a:Y1}{H b:Hp}{x d c e f g h i j:Addr}{k:lS}{l:Wp}{m:iD}(L:gY C n a H x d c e f g h i o j p k l m)(s:aJ H b):gY C n a b x d c e f g h i o j p k l m :=
 ⟨s _ _ L.hx,L.W.same s,s _ _ L.hb,L.nx,L.nb⟩
theorem gY.pr{b:Y1}{H:Hp}{x d c e f g h a i:Addr}{j:lS}{k:Wp}{l:iD}(L:gY C n b H x d c e f g h a o i p j k l):x≠a:=λm=>by
 let z:=L.hx;rw[m,L.hb]at z;cases z
class inductive SV(C CS:Addr)
 | mk (b:Y1) (x d c e f g h i j k l:Addr) (m:lS) (a:Wp) (n:iD) (_:vs=[↥x]) (_:gY C CS b H x d c e f g h i j k l m a n) (_:Q (.int (↑a:Nat)) H)
class inductive J8(C CS:Addr)
 | mk (k:Y1) (x l m n o p q c r t u:Addr) (d:lS) (v:Wp) (f:iD) (y g:Addr) (h:jo) (i:WF) (e:List (Nat × List aY)) (b:List (List aY)) (_:vs=[↥x,↥y,↥g]) (_:gY C CS k H x l m n o p q c r t u d v f) (_:h.At H y) (_:h.Ok) (_:H g=⇑(.lst (i.map V.ref))) (_:g≠c) (_:cG (Ik H) i e) (_:(∀ a∈i,∀ (s:Int) (z:Addr),H a=⇑(.tup [.int s,↥z])->z≠c)) (_:d.getLast?=⇑b) (_:Xe b e) (_:↑e<=200) (_:↑b<=500) (_:↑d<=1000) (_:↑f<=1000) (_ :
 ∀ (A:Y1) (j:Hp),gY C CS A j x l m n o p q c r t u (d++[nA b e]) (v++List.replicate (↑(nA b e)-↑b) ((↑d:Nat):Int)) (f++[h.line])->Fr k A c H j->Q .gc j)
theorem xD:‹(2,60,["self"],(SV fj cO))›:=λD=>by
 specialize fm ["self"] D.hV.F;let⟨S,x,d,i,a,j,l,m,n,b,c,e,f,g,o,rfl,L,k⟩:=h;exists _,#v[aM (gO (cY (pv 0) rfl) D.dH D.Wy (rV D) hr bR)]
 all_goals try dsimp only[aS,aH]
 exact⟨Y,x,fj,d,_,↥a,1,L.hx,D.aR.cl,D.gJ,1,a,b,Y,L.W.hx,1,S,a,b,c,e,f,g,1,L.W,k⟩
theorem iZ:‹(3,58,["self","deed","changes"],(J8 fj cO))›:=λD=>by
 specialize fm ["self","deed","changes"] D.OD.F;let⟨S,x,s,wl,i,bl,kn,du,b,k,t,u,v,w,c,G,I,e,y,J,M,rfl,L,N,B,O,R,T,U,W,X,l1,l2,l3,l4,ab⟩:=h;exists _,#v[aT (dX n8 jt ju bT (cY (pv 0) rfl) #[aC D.Z8 (AQ D) hr #[1]]),aT (cV (cY (pv 0) rfl) D.dH D.g0 (AR D) hr bR #[2])]
 all_goals try dsimp only[aS,aH]
 refine⟨Y,x,fj,s,_,↥b,1,L.hx,D.aR.cl,D.Es,1,.inl ⟨1,_,bL.of L.hb⟩,Y,G,e,1,N,B,Ii B,λj l=>?_⟩;refine⟨b,Z,l _ _ L.hb,aN (by rw[cC];lia),?_⟩;let e2:(c.map λbu=>V.str (dY bu))++[V.str (dY e.line)]=(c++[e.line]).map λbu=>V.str (dY bu):=by rw[gP];rfl
 rw[e2]
 let d:cF b H (aL j b (ly (c++[e.line]))):=λa C q n=>by
  rw[aK n];exact l _ _ q
 let m:(aL j b (ly (c++[e.line]))) b=⇑(ly (c++[e.line])):=af
 let F:∀ a,(aL j b (ly (c++[e.line]))) a=none->H a=none:=λa q=>by
  by_cases z:a=b
  ·rw[z,af]at q;cases q
  ·rw[aK z]at q;exact aU l q
 generalize aL j b (ly (c++[e.line]))=c at d m F;let o:∀ a g,H a=⇑(.tup g)->c a=⇑(.tup g):=λa g q=>d _ _ q (cS q L.hb);have b:Sh cO S c i k t u v w:=L.W.keep L.hb L.nb d;have p:=d _ _ L.hx L.pr;refine⟨Y,x,fj,s,_,↥i,1,p,D.aR.cl,D.gJ,1,i,k,Y,b.hx,1,Y,S,i,k,t,u,I,v,w,y,J,M,1,b,d _ _ O R,?_,W,X,l1,l2,l3,λS' H3 W3 f r tp=>?_⟩
 ·let ae:∀ {b:WF} {e:List (Nat × List aY)},cG (Ik H) b e->(∀ a∈b,a∈y)->cG (Ik c) b e:=by
   intro b e q
   induction q with
   | nil=>intro _;exact .nil
   | cons C t b =>
    intro f;refine .cons ?_ (b λa b=>f a (kY _ b));let⟨c,b,e⟩:=C;let i:=U _ (f _ rY) _ c b;exact⟨c,o _ _ b,e.fr (λg q=>d _ _ q i) o⟩
  exact ae T λ_ z=>z
 ·refine ab S' H3 ⟨r _ _ p L.nx,W3,r _ _ m L.nb,λz=>?_,λz=>?_⟩ ⟨λa z=>(f a z).imp id λq=>F a q,λa c q n b=>r _ _ (d _ _ q b) n,λa g q=>tp _ _ (o _ _ q)⟩
  ·rcases f _ z with q|q
   ·exact L.nx q
   ·rw[p]at q;cases q
  ·rcases f _ z with q|q
   ·exact L.nb q
   ·rw[m]at q;cases q
abbrev qW(a:gZ):lS:=a.map λb=>b.map aI
def i6(a:dB)(s:Nat)(b:Wp):dB:=a.take s++[b]++a.drop (s+1)
def SX(a:dB)(s:Nat)(b:Wp):nA (a.map aI) [(s,aI b)]=(i6 a s b).map aI:=by
 show (a.map aI).take s++[aI b]++(a.map aI).drop (s+1)=_;unfold i6;rw[gP,gP,List.map_take,List.map_drop];rfl
def FG{a:dB}{s:Nat}{b:Wp}(h:s<=↑a):↑(i6 a s b)=if s=↑a then ↑a+1 else ↑a:=by
 unfold i6;rw[dh,dh,gm,l9];show min s ↑a+1+_=_
 split <;> lia
def Pd(a:Wp)(n s m:Nat):Wp:=a++if s=n then [(m:Int)] else []
def Xj{a:dB}{s:Nat}{d:Wp}{b:Wp}{m:Nat}(h:s<=↑a):b++List.replicate (↑((i6 a s d).map aI)-↑(a.map aI)) (m:Int)=Pd b ↑a s m:=by
 rw[cC,cC,FG h];unfold Pd;by_cases c:s=↑a
 ·rw[if_pos c,if_pos c,show ↑a+1-↑a=1 by lia];rfl
 ·rw[if_neg c,if_neg c,Nat.sub_self];rfl
class inductive FH(C CS:Addr)
 | mk (h:Y1) (x i j k l m n c o p q:Addr) (b:gZ) (t:Wp) (d:iD) (u r:Addr) (e:jo) (s:Nat) (f:Wp) (a:dB) (y:Int->Int) (_:vs=[↥x,↥u,.int (s:Nat),↥r]) (_:gY C CS h H x i j k l m n c o p q (qW b) t d) (_:e.At H u) (_:e.Ok) (_:b8 H ↥r (aI f)) (_:r≠c) (_:b.getLast?=⇑a) (_:s<=↑a) (_:↑a<=50) (_:↑b<=900) (_:↑d<=900) (_:mR (i6 a s f) y) (_ :
 ∀ (v:Y1) (g:Hp),gY C CS v g x i j k l m n c o p q (qW (b++[i6 a s f])) (Pd t ↑a s ↑b) (d++[e.line])->Fr h v c H g->Q .gc g)
def kO{a:gZ}{b:dB}(h:a.getLast?=⇑b):(qW a).getLast?=⇑(b.map aI):=by
 rw[List.getLast?_map,h];rfl
def Pe{H a:Hp}{b:WF}{c:List (List aY)}{r:Addr}{d:List aY}{s:Nat}(f:cG (λq i=>b8 a ↥q i) b c)(g:b8 a ↥r d):cG (b8 a) ((b.map V.ref).take s++[↥r]++(b.map V.ref).drop (s+1)) (c.take s++[d]++c.drop (s+1)):=by
 let e:cG (b8 a) (b.map V.ref) c:=by
  induction f with
  | nil=>exact .nil
  | cons o t h=>exact .cons o h
 exact ((e.take s).app (.cons g .nil)).app (e.drop (s+1))
theorem eN:‹(5,59,["self","deed","sheet","items"],(FH fj cO))›:=λD=>by
 specialize fm ["self","deed","sheet","items"] D.E6.F;let⟨S,x,l,M,g,N,O,R,u,m,v,w,b,n,T,U,r,W,s0,c,a,X,rfl,L,de,ok,y,ab,hl,j,l1,l2,l3,ae,ag⟩:=h;let o:=kO hl;let lp:↑(qW b)=↑b:=cC _
 let lo:↑n=↑a:=by
  let⟨f,d,e⟩:=L.W.Qu.Cj;rw[o]at d;cases d;rw[e,cC]
 exists _,#v[aT (aC D.hT (zP D) hr #[aC D.Wx (zM D) hr #[gO (cY (pv 0) rfl) D.dH D.C3 (fY D) hr bR,2,3],2]),aT (cV (pv 0) D.aR D.OD (iZ D) hr bR #[1,bJ #[cZ #[2,3]]])]
 all_goals try dsimp only[aS,aH]
 refine⟨Y,x,fj,l,_,↥g,1,L.hx,D.aR.cl,D.gJ,1,g,m,Y,L.W.hx,1,S,g,m,v,w,qW b,n,1,L.W,⟨by lia,by lia⟩,λam B ai H1 fs p=>?_⟩;rw[o]at B;cases B;let⟨B,rs,hq,C⟩:=fs;let B:↑rs=↑a:=by rw[C.len,cC]
 let ak:=y.same p;let L1:=L.same p;refine⟨Y,Y,ai,r,_,s0,1,hq,by rw[cC,B];exact j,by rw[cC,B];lia,λB H2 Uk q f2=>?_⟩
 refine⟨Y,B,i6 a s0 c,(s0:Int),X,1,⟨_,Uk,?_⟩,ae,by lia,by rw[FG j];split <;> lia,λe s3=>?_⟩
 ·let z:=Pe (H:=H) (a:=H2) (s:=s0) (C.mono λf k d=>(d.2.2).same q) (ak.same q)
  let f:(a.map aI).take s0++[aI c]++(a.map aI).drop (s0+1)=(i6 a s0 c).map aI:=by
   unfold i6;rw[gP,gP,List.map_take,List.map_drop];rfl
  rw[f]at z;exact z
 let F:=p.trans (q.trans s3);let q:=L.same F;refine⟨Y,x,l,Y,q.hx,1,Y,Y,Y,mT,λt B=>⟨kH,λd p=>?_⟩⟩;let G:aJ e (aL (aL e t (.tup [.int (s0:Nat),↥r])) d (.lst [↥t])):=(ao B _).trans (ao p _);let s:(aL (aL e t (.tup [.int (s0:Nat),↥r])) d (.lst [↥t])) t=⇑(.tup [.int (s0:Nat),↥r]):=ao p _ _ _ af;let I:(aL (aL e t (.tup [.int (s0:Nat),↥r])) d (.lst [↥t])) d=⇑(.lst ([t].map V.ref)):=af
 let nc:d≠u:=λz=>by
  have:=ao B (.tup [.int (s0:Nat),↥r]) _ _ q.hb;rw[← z,p]at this;cases this
 generalize aL (aL e t (.tup [.int (s0:Nat),↥r])) d (.lst [↥t])=e at G s I;let k:=F.trans G;refine⟨S,x,l,M,g,N,O,R,u,m,v,w,qW b,n,T,U,d,W,[t],[(s0,aI c)],a.map aI,1,L.same k,de.same k,ok,I,nc,.cons ⟨r,s,y.same k⟩ .nil,?_,o,?_,(by show 1<=200;decide),by rw[cC];lia,by lia,by lia,λS' H' J fr=>?_⟩
 ·intro e d g l f;rw[List.mem_singleton.mp d,s]at f;cases f;exact ab
 ·intro i d f
  match i,f with
  | 0,f =>
   cases f;show s0<=↑(a.map aI);rw[cC];exact j
  | i+1,f=>cases f
 ·rw[SX,Xj j,lp]at J;refine ag S' H' ?_ (fr.same k)
  let f:qW (b++[i6 a s0 c])=qW b++[(i6 a s0 c).map aI]:=by
   show (b++[i6 a s0 c]).map _=_;rw[gP];rfl
  rw[f];exact J
class inductive SY(C CS:Addr)
 | mk (h:Y1) (x i j k l m n c o p q:Addr) (b:gZ) (t:Wp) (d:iD) (u r:Addr) (e:jo) (f:Wp) (a:dB) (_:vs=[↥x,↥u,↥r]) (_:gY C CS h H x i j k l m n c o p q (qW b) t d) (_:e.At H u) (_:e.Ok) (_:b8 H ↥r (aI f)) (_:r≠c) (_:b.getLast?=⇑a) (_:↑a<=50) (_:↑b<=900) (_:↑d<=900) (_:↑a<40) (_:((∃ y,mR (a++[f]) y)/\∀ (v:Y1) (g:Hp),gY C CS v g x i j k l m n c o p q (qW (b++[a++[f]])) (t++[((↑b:Nat):Int)]) (d++[e.line])->Fr h v c H g->Q (.int (↑a:Nat)) g))
def FI(a:dB)(b:Wp):i6 a ↑a b=a++[b]:=by
 unfold i6;rw[gU,xm ∅,gV]
def Dm{e:Y1}{H:Hp}{x f g h i j k l m:Addr}{a:gZ}{b:Wp}{n:iD}{c:dB}(L:gY C q e H x f g h i j k l r m t (qW a) b n)(o:a.getLast?=⇑c):↑b=↑c:=by
 let⟨s,d,p⟩:=L.W.Qu.Cj;rw[kO o]at d;cases d;rw[p,cC]
theorem vU:‹(6,61,["self","deed","items"],(SY fj cO))›:=λD=>by
 let⟨r,s⟩:=D.G.s;specialize fm ["self","deed","items","sheet"] D.hY.F;let⟨S,x,d,f,g,i,j,k,l,m,n,o,a,b,p,t,u,v,w,c,rfl,L,y,z,B,C,q,F,G,I,U,J⟩:=h;let lo:=Dm L q;exists _,#v[aX 3 (gO (pv 0) D.aR D.hV (xD D) hr bR),bO (aV T8 (pv 3) (Cv (v:=.int 40) rfl s ⟨r,1⟩) (bh _)) #v[iG] bg,aT (cV (pv 0) D.aR D.E6 (eN D) hr bR #[1,3,2]),aM (pv 3)]
 all_goals try dsimp only[aS,aH]
 exists Y,x,d,Y,L.hx,1,S,x,d,f,g,i,j,k,l,m,n,o,qW a,b,p,1,L;rw[lo];refine⟨Y,Z,Y,dM (λr=>?_) (λr=>?_)⟩
 ·exact absurd (of_decide_eq_true r) ∅
 ·let⟨⟨r,s⟩,M⟩:=J;refine⟨Y,x,d,Y,L.hx,1,Y,Y,Y,S,x,d,f,g,i,j,k,l,m,n,o,a,b,p,t,u,v,↑c,w,c,r,1,L,y,z,B,C,q,fH _,F,G,I,by rw[FI];exact s,λN O e R=>?_⟩;rw[FI]at e;let T:Pd b ↑c ↑c ↑a=b++[((↑a:Nat):Int)]:=by unfold Pd;rw[if_pos rfl]
  rw[T]at e;exact⟨Y,M N O e R⟩
abbrev fD:List Nat:=(Str.ofString "fresh").cps.toList
theorem Pf:(jo.plain fD []).Ok:=⟨nofun,λ_ z=>by cases z⟩
class inductive S0(C CS:Addr)
 | mk (f:Y1) (x g h i j k l c m n o:Addr) (b:gZ) (p:Wp) (d:iD) (a:dB) (_:vs=[↥x]) (_:gY C CS f H x g h i j k l c m n o (qW b) p d) (_:b.getLast?=⇑a) (_:↑a<=50) (_:↑b<=900) (_:↑d<=900) (_:↑a<40) (_:((∃ r,mR (a++[[]]) r)/\∀ (q:Y1) (e:Hp),gY C CS q e x g h i j k l c m n o (qW (b++[a++[[]]])) (p++[((↑b:Nat):Int)]) (d++[(jo.plain fD []).line])->Fr f q c H e->Q (.int (↑a:Nat)) e))
theorem vV:‹(7,62,["self"],(S0 fj cO))›:=λD=>by
 specialize fm ["self"] D.Wz.F;let⟨S,x,d,i,j,k,l,m,c,n,o,p,q,s,u,v,rfl,L,w,y,z,B,C,F⟩:=h;exists _,#v[aM (cV (pv 0) D.aR D.hY (vU D) hr bR #[cZ #[bw],bJ ah])]
 all_goals try dsimp only[aS,aH]
 refine⟨Y,x,d,Y,L.hx,1,kH,λt e=>⟨iy,λr a=>?_⟩⟩;let b:aJ H (aL (aL H t (.tup [.str "fresh"])) r (.lst [])):=(ao e _).trans (ao a _);let f:(aL (aL H t (.tup [.str "fresh"])) r (.lst [])) t=⇑(.tup [.str "fresh"]):=ao a _ _ _ af;let g:(aL (aL H t (.tup [.str "fresh"])) r (.lst [])) r=⇑(.lst []):=af
 let G:r≠c:=λI=>by
  have:=ao e (.tup [.str "fresh"]) _ _ L.hb;rw[← I,a]at this;cases this
 generalize aL (aL H t (.tup [.str "fresh"])) r (.lst [])=a at b f g;exists S,x,d,i,j,k,l,m,c,n,o,p,q,s,u,t,r,.plain fD [],[],v,1,L.same b,by show a t=_;rw[f,oE];rfl,Pf,⟨r,[],1,g,.nil⟩,G,w,y,z,B,C;let⟨B,a⟩:=F;exact⟨B,λc d e f=>a c d e (f.same b)⟩
theorem l5{H b:Hp}{c:Addr}{o:HO}(d:H a=none)(f:H c=none)(k:cF a (aL (aL H c (.own a)) a o) b):aJ H b:=λg h e=>k g h (by rw[aK (aA e d),aK (aA e f)];exact e) (aA e d)
theorem Sh.kQ{a:Y1}{H b:Hp}{x d c l:Addr}{f:lS}{g:Wp}{i:List (Str × V)}(j:Sh C a H x d c m f g)(n:H l=⇑(.ins r t i))(o:¬ a l)(k:cF l H b):Sh C a b x d c m f g :=
 j.fr (λh p e z=>k h p e (λq=>o (by rw[← q];exact z))) (λh h e=>k _ _ e (cS e n))
structure Seen(rows:dB)(sh:Y2):Prop where
 es:∀ es∈rows,↑es<=1000
 sd:gT rows
 rk:CO rows
 ss:mJ rows sh
 ln:∀ x:Int,0<=x->x<↑rows->↑(sh x)<=10000
def SK.at_{H a:Hp}{q:Addr}{d:List (List aY)}(h:SK H a q d):iu a q d:=by
 let⟨_,b,c,e⟩:=h;exists b.map V.ref,c
 let f:∀ {b:WF} {c:List (List aY)},cG (λr g=>H r=none/\r≠q/\b8 a ↥r g) b c->cG (b8 a) (b.map V.ref) c:=by
  intro b c z
  induction z with
  | nil=>exact .nil
  | cons o t b=>exact .cons o.2.2 b
 exact f e
def gY.rws{e:Y1}{H:Hp}{x j k b l m n o f:Addr}{a:gZ}{g:Wp}{p:iD}{c:dB}{Q:VK}{E:XK}(L:gY C r e H x j k b l m n o t f u (qW a) g p)(h:a.getLast?=⇑c)(z:↑c<=50)(A:↑a<=900)(v:∀ (q:Addr) (d:Hp),iu d q (c.map aI)->aJ H d->Q ↥q d):O9 r [↥b] H Q E:=by
 let lo:=Dm L h;let B:↑(qW a)=↑a:=cC _;refine⟨e,b,t,f,u,qW a,g,1,L.W,⟨by lia,by lia⟩,λrws i q w y s=>?_⟩;rw[kO h]at i;cases i;exact v q w y.at_ s
theorem gY.Xk{c:Y1}{H:Hp}{x g h a i j k l d:Addr}{b:gZ}{e:Wp}{m:iD}{f:dB}{s:Int}{Q:VK}{E:XK}(L:gY C n c H x g h a i j k l o d p (qW b) e m)(q:b.getLast?=⇑f)(r:qR ↑f s)(t:Q .gc H):Cm n [↥a,.int s] H Q E:=⟨c,a,o,d,p,qW b,e,s,1,L.W,by rw[Dm L q];exact r,t⟩
class inductive Pg(C CS:Addr)
 | mk (d:Y1) (x e g h i j k l m n p:Addr) (b:gZ) (q:Wp) (r:iD) (a:dB) (s:Int) (_:vs=[↥x,.int s]) (_:gY C CS d H x e g h i j k l m n p (qW b) q r) (_:b.getLast?=⇑a) (_:↑a<=50) (_:↑b<=900) (_:qR ↑a s) (_:(∃ f,Seen a f/\∀ (o:Addr) (c:Hp),bV c o (cL (f s))->aJ H c->H o=none->Q ↥o c))
theorem j8:‹(5,67,["self","sheet"],(Pg fj cO))›:=λD=>by
 specialize fm ["self","sheet"] D.Sf.F;let⟨S,x,d,a,b,l,m,n,o,e,p,q,r,s,t,g,s0,rfl,L,f,i,j,c,k⟩:=h;exists _,#v[aT (cV (cY (pv 0) rfl) D.dH D.E5 (dJ D) hr bR #[1]),aM (_fG.uz D.OC (D.T.qv _ D.OC.m) (Fg D) hr #[gO (cY (pv 0) rfl) D.dH D.C3 (fY D) hr bR,1])]
 all_goals try dsimp only[aS,aH]
 refine⟨Y,x,fj,d,_,↥b,1,L.hx,D.aR.cl,D.gJ,1,b,e,Y,L.W.hx,1,Y,L.Xk f c ?_⟩;let⟨l,a,m⟩:=k;refine⟨Y,x,fj,d,_,↥b,1,L.hx,D.aR.cl,D.gJ,1,b,e,Y,L.W.hx,1,L.rws f i j λq e d b=>?_⟩;let e:=d;exact⟨Y,q,g,s0,l,1,e,by lia,a.es,a.sd,a.rk,c.1,c.2,a.ss,a.ln,λo a c d e=>m o a c (b.trans d) (aU b e)⟩
theorem gY.fr{c:Y1}{H d:Hp}{x f g h i j l e m:Addr}{n:lS}{o:Wp}{p:iD}(L:gY C r c H x f g h i j l e t m u n o p)(k:∀ a b,H a=⇑b->(c a\/a=e\/a=x)->d a=⇑b)(v:∀ a q,H a=⇑(.tup q)->d a=⇑(.tup q)):gY C r c d x f g h i j l e t m u n o p :=
 ⟨k _ _ L.hx (.inr (.inr rfl)),L.W.fr (λa b s z=>k a b s (.inl z)) v,k _ _ L.hb (.inr (.inl rfl)),L.nx,L.nb⟩
structure qw(C CS CW CB:Addr)(U S SW:Y1)(H:Hp)(x d wl sh bl kn du bk dS st op dw sg ow pw db tb:Addr)(pe:gZ)(ops:Wp)(aB:iD)(aF:gG)(nW:Nat)(aO:Row):Prop where
 L:gY C CS S H x d wl sh bl kn du bk dS st op (qW pe) ops aB
 W:We CW SW H wl dw sg ow pw nW aF
 B:Bl CB H bl db tb
 R:bV H tb aO
 pG:uy aO
 dj:∀ a,SW a->¬ S a/\a≠bk/\a≠x
 db:¬ S bl/\¬ SW bl/\bl≠bk
 dt:¬ S tb/\¬ SW tb/\tb≠bk
 u:∀ a,U a↔S a\/SW a\/a=bk\/a=x\/a=bl\/a=tb
inductive nB(C CS CW CB:Addr)(U:Y1)(H:Hp)(x:Addr)(pe:gZ)(aB:iD)(aF:gG)(nW:Nat)(aO:Row):Prop
 | mk (a b:Y1) (d c e f g h i j k l m n o p q r:Addr) (t:Wp) (_:qw C CS CW CB U a b H x d c e f g h i j k l m n o p q r pe t aB aF nW aO)
def uY(U d:Y1)(H b:Hp):Prop:=(∀ a,d a->U a\/H a=none)/\(∀ a c,H a=⇑c->¬ U a->b a=⇑c)/\∀ a c,H a=⇑(.tup c)->b a=⇑(.tup c)
theorem uY.same{U:Y1}{H a:Hp}(s:aJ H a):uY U U H a:=⟨λ_ z=>.inl z,λb c e _=>s b c e,λb b e=>s _ _ e⟩
theorem uY.pre{U b:Y1}{c H d:Hp}(s:aJ c H)(f:uY U b H d):uY U b c d:=⟨λa z=>(f.1 a z).imp id λy=>aU s y,λa g e n=>f.2.1 a g (s _ _ e) n,λa g e=>f.2.2 a g (s _ _ e)⟩
def qw.fr{U f g:Y1}{H c:Hp}{x h i j l m n o p q r db:Addr}{v:gZ}{y:Wp}{A:iD}{C:gG}{D:Nat}{G:Row}(I:qw J M N O U f g H x h i j l m n o T p op q sg ow r db tb v y A C D G)(k:∀ a b,H a=⇑b->U a->c a=⇑b)(t:∀ a d,H a=⇑(.tup d)->c a=⇑(.tup d)):qw J M N O U f g c x h i j l m n o T p op q sg ow r db tb v y A C D G:=by
 let⟨L,W,B,R,pG,dj,s,dt,u⟩:=I;refine⟨L.fr (λa b e z=>k a b e ((u a).mpr ?_)) t,W.fr (λa b e z=>k a b e ((u a).mpr (.inr (.inl z)))) t,k _ _ B ((u _).mpr (.inr (.inr (.inr (.inr (.inl rfl)))))),R.two (λd e=>k _ _ e ((u _).mpr (.inr (.inr (.inr (.inr (.inr rfl))))))) t,pG,dj,s,dt,u⟩;rcases z with z|z|z
 ·exact .inl z
 ·exact .inr (.inr (.inl z))
 ·exact .inr (.inr (.inr (.inl z)))
theorem qw.same{U a b:Y1}{H c:Hp}{x d f g h i j k l m n db:Addr}{o:gZ}{p:Wp}{q:iD}{r:gG}{t:Nat}{v:Row}(y:qw C z A D U a b H x d f g h i j k G l I m J M n db N o p q r t v)(s:aJ H c):qw C z A D U a b c x d f g h i j k G l I m J M n db N o p q r t v:=y.fr (λu w e _=>s u w e) λu u e=>s _ _ e
def nB.fr{U:Y1}{H b:Hp}{x:Addr}{c:gZ}{d:iD}{e:gG}{f:Nat}{g:Row}(j:nB C k l n U H x c d e f g)(o:∀ a h,H a=⇑h->U a->b a=⇑h)(t:∀ a i,H a=⇑(.tup i)->b a=⇑(.tup i)):nB C k l n U b x c d e f g:=by
 let⟨S,m,p,q,r,s,u,v,w,y,z,A,B,D,F,G,I,J,L,M⟩:=j;exact⟨S,m,p,q,r,s,u,v,w,y,z,A,B,D,F,G,I,J,L,M.fr o t⟩
theorem nB.same{U:Y1}{H a:Hp}{x:Addr}{b:gZ}{c:iD}{d:gG}{f:Nat}{g:Row}(i:nB C j k l U H x b c d f g)(s:aJ H a):nB C j k l U a x b c d f g:=i.fr (λh m e _=>s h m e) λh h e=>s _ _ e
def qw.uN{U i c j:Y1}{H f:Hp}{x k l m g o p d q t v db:Addr}{pe A:gZ}{ab C:Wp}{aB D:iD}{G:gG}{I:Nat}{J:Row}(ae:qw M N CW CB U i j H x k l m g o p d O q T t sg ow v db tb pe ab aB G I J)(L':gY M N c f x k l m g o p d O q T (qW A) C D)(fr:Fr i c d H f):∃ U',nB M N CW CB U' f x A D G I J/\uY U U' H f:=by
 let⟨L,W,B,R,pG,dj,h,dt,u⟩:=ae;let⟨w,s,_⟩:=id R
 let r:∀ a b,H a=⇑b->¬ i a->¬ c a:=λa b e n z=>by
  rcases fr.1 a z with y|y
  ·exact n y
  ·rw[e]at y;cases y
 refine⟨λa=>c a\/j a\/a=d\/a=x\/a=g\/a=tb,⟨c,j,k,l,m,g,o,p,d,O,q,T,t,sg,ow,v,db,tb,C,L',W.fr (λa b e z=>fr.2.1 _ _ e (dj a z).1 (dj a z).2.1) fr.2.2,fr.2.1 _ _ B h.1 h.2.2,R.two (λw e=>fr.2.1 _ _ e dt.1 dt.2.2) fr.2.2,pG,λa z=>?_,⟨r _ _ B h.1,h.2⟩,⟨r _ _ s dt.1,dt.2⟩,λa=>Iff.rfl⟩,λa z=>?_,λa b e n=>?_,fr.2.2⟩
 ·let⟨b,e⟩:=W.al a z;exact⟨r _ _ e (dj a z).1,(dj a z).2⟩
 ·rcases z with z|z
  ·exact (fr.1 a z).imp (λy=>(u a).mpr (.inl y)) id
  ·exact .inl ((u a).mpr (.inr z))
 ·exact fr.2.1 a b e (λz=>n ((u a).mpr (.inl z))) (λz=>n ((u a).mpr (.inr (.inr (.inl z)))))
theorem b':∀ y∈([]:Wp),ny y:=λ_ z=>by cases z
theorem GN{x:Int}{l:Wp}(a:0<=x)(b:x<10^60)(g:∀ y∈l,ny y):∀ y∈x::l,ny y:=λy z=>(List.mem_cons.mp z).elim (λe=>by rw[e];exact⟨a,b⟩) (g y)
def qw.chg{U l O:Y1}{H d:Hp}{x m o p q r v y z T pw db t e:Addr}{b:gZ}{A:Wp}{f:iD}{C:gG}{D:Nat}{G:Row}{a:dB}{I:Str}{n:List Nat}{c g:Wp}{s:Int}{Q:VK}{E:XK}(i:qw J M CW CB U l O H x m o p q r v y dS z op T sg ow pw db tb b A f C D G)(j:aJ H d)(ht:d t=⇑(.tup (.str I::c.map V.int)))(hn:I=dY n)(hk:jT Qt n=⇑(↑c:Int))(hf:∀ ab∈c,ny ab)(hq:b8 d ↥e (aI g))(fq:H e=none)(hl:b.getLast?=⇑a)(l1:↑a<=50)(l2:↑b<=900)(l3:↑f<=900)(N:qR ↑a s)(B:∃ ae,mR (i6 a s.toNat g) ae)(ag:∀ (h:Y1) (k:Hp),nB J M CW CB h k x (b++[i6 a s.toNat g]) (f++[(jo.plain n c).line]) C D G->uY U h H k->Q .gc k):FH J M [↥x,↥t,.int s,↥e] d Q E:=by
 subst hn;let u:=N.1;let u:=N.2;let u:((s.toNat:Nat):Int)=s:=by lia
 let⟨w,B⟩:=B;refine⟨l,x,m,o,p,q,r,v,y,dS,z,op,b,A,f,t,e,.plain n c,s.toNat,g,a,w,by rw[u],(i.same j).L,ht,⟨hk,hf⟩,hq,(λu=>by have:=i.L.hb;rw[← u,fq]at this;cases this),hl,by lia,l1,l2,l3,B,λL u w F=>?_⟩;let⟨h,L,R⟩:=(i.same j).uN w F;exact ag h u L (R.pre j)
class inductive Td(C CS CW CB:Addr)
 | mk (U:Y1) (x:Addr) (c:gZ) (e:iD) (a:gG) (f:Nat) (i:Row) (h:Int) (b:List Nat) (g:dB) (_:vs=[↥x,.int h,.str (dY b)]) (_:nB C CS CW CB U H x c e a f i) (_:ny h) (_:↑b<=200) (_:↑a<=90000) (_:f<=900) (_:c.getLast?=⇑g) (_:↑g<=50) (_:↑c<=900) (_:↑e<=900) (_ :
 ∀ (j:Y1) (q:Addr) (d:Hp),nB C CS CW CB j d x (c++[g]) (e++[(jo.AO h b).line]) (a++oJ h b) (f+1) i->uY U j H d->d q=⇑(.tup [.int (↑a:Nat),.int (↑(a++oJ h b):Nat)])->Q ↥q d)
theorem xE:‹(4,65,["self","hand","text"],(Td fj cO dc d9))›:=λD=>by
 specialize fm ["self","hand","text","stretch"] D.WB.F;let⟨am,x,c,F,aF,nW,aO,h,d,f,rfl,⟨S,o,p,l,G,s,I,J,m,M,N,O,R,sg,ow,pw,db,tb,g,LU⟩,fh,lc,li,ln,hl,l1,l2,l3,k⟩:=h;let⟨L,W,ae,ag,pG,dj,v,w,u⟩:=id LU;exists _,#v[aX 3 (cV (cY (pv 0) rfl) D.iN D.hJ (Dj D) hr bR #[1,2]),aT (cV (pv 0) D.aR D.OD (iZ D) hr bR #[cZ #[bw,1,2],bJ ah]),aM (pv 3)]
 all_goals try dsimp only[aS,aH]
 refine⟨Y,x,fj,p,_,↥l,1,L.hx,D.aR.cl,D.uh,1,l,R,Y,W.hx,1,Y,Y,o,l,R,sg,ow,pw,nW,aF,h,d,1,W,by lia,by lia,λT ai i W1 hq U q X=>?_⟩
 let ab:∀ a b,H a=⇑b->¬ o a->¬ T a:=λa b e r z=>by
  rcases U a z with y|y
  ·exact r y
  ·rw[e]at y;cases y
 let ak:∀ a b,H a=⇑b->(S a\/a=m\/a=x)->¬ o a:=λa b e z y=>by
  let⟨B,j,n⟩:=dj a y;rcases z with z|z|z
  ·exact B z
  ·exact j z
  ·exact n z
 let L1:gY fj cO S i x p l G s I J m M N O (qW c) g F:=L.fr (λa b e z=>q _ _ e (ak a b e z)) X;let⟨as,hR,_⟩:=id ag
 let AV:qw fj cO dc d9 (λa=>S a\/T a\/a=m\/a=x\/a=s\/a=tb) S T i x p l G s I J m M N O R sg ow pw db tb c g F (aF++oJ h d) (nW+1) aO:=by
  refine⟨L1,W1,q _ _ ae v.2.1,ag.two (λxs e=>q _ _ e w.2.1) X,pG,λa z=>?_,⟨v.1,ab _ _ ae v.2.1,v.2.2⟩,⟨w.1,ab _ _ hR w.2.1,w.2.2⟩,λa=>Iff.rfl⟩;rcases U a z with y|y
  ·exact dj a y
  ·refine⟨λj=>?_,λj=>?_,λj=>?_⟩
   ·let⟨b,e⟩:=L.W.al a j;rw[y]at e;cases e
   ·rw[j,L.hb]at y;cases y
   ·rw[j,L.hx]at y;cases y
 refine⟨Y,x,p,Y,L1.hx,1,Y,Y,LA,λt w=>⟨iy,λj v=>?_⟩⟩;let n:aJ i (aL (aL i t (.tup [.str "pour",.int h,.str (dY d)])) j (.lst [])):=(ao w _).trans (ao v _);let EL:(aL (aL i t (.tup [.str "pour",.int h,.str (dY d)])) j (.lst [])) t=⇑(.tup [.str "pour",.int h,.str (dY d)]):=ao v _ _ _ af;let Qs:(aL (aL i t (.tup [.str "pour",.int h,.str (dY d)])) j (.lst [])) j=⇑(.lst (([]:WF).map V.ref)):=af
 let nc:j≠m:=λz=>by
  have:=ao w (.tup [.str "pour",.int h,.str (dY d)]) _ _ L1.hb;rw[← z,v]at this;cases this
 generalize aL (aL i t (.tup [.str "pour",.int h,.str (dY d)])) j (.lst [])=i at n EL Qs;let i:↑(qW c)=↑c:=cC _;let uO:=AV.same n;refine⟨S,x,p,l,G,s,I,J,m,M,N,O,qW c,g,F,t,j,.AO h d,[],[],f.map aI,1,uO.L,EL,⟨fh,lc⟩,Qs,nc,.nil,(λ_ z=>by cases z),kO hl,(λi d e=>by cases e),(by show 0<=200;decide),by rw[cC];lia,by lia,by lia,λd H3 L3 XW=>?_⟩
 let ep:qW c++[nA (f.map aI) []]=qW (c++[f]):=by
  show _=(c++[f]).map _;rw[gP];rfl
 let d:g++List.replicate (↑(nA (f.map aI) [])-↑(f.map aI)) ((↑(qW c):Nat):Int)=g:=by
  show g++List.replicate (↑(f.map aI)-↑(f.map aI)) _=g;rw[Nat.sub_self];exact gV _
 rw[ep,d]at L3;let⟨c,d,C⟩:=uO.uN L3 XW;refine⟨Y,k c ai H3 d ⟨λa z=>?_,λa b e r=>?_,λa xs e=>C.2.2 _ _ (n _ _ (X _ _ e))⟩ (C.2.2 _ _ (n _ _ hq))⟩
 ·rcases C.1 a z with y|y
  ·rcases y with y|y|y
   ·exact .inl ((u a).mpr (.inl y))
   ·exact (U a y).imp (λbu=>(u a).mpr (.inr (.inl bu))) id
   ·exact .inl ((u a).mpr (.inr (.inr y)))
  ·let B:=aU n y
   cases e:H a with
   | none=>exact .inr rfl
   | some b =>
    by_cases c:o a
    ·exact .inl ((u a).mpr (.inr (.inl c)))
    ·rw[q _ _ e c]at B;cases B
 ·let B:¬ o a:=λz=>r ((u a).mpr (.inr (.inl z)));refine C.2.1 a b (n _ _ (q _ _ e B)) λz=>?_;rcases z with z|z|z
  ·exact r ((u a).mpr (.inl z))
  ·exact ab _ _ e B z
  ·exact r ((u a).mpr (.inr (.inr z)))
class inductive FL(C CS CW CB:Addr)
 | mk (U:Y1) (x:Addr) (b:gZ) (c:iD) (a:gG) (d:Nat) (e:Row) (_:vs=[↥x]) (_:nB C CS CW CB U H x b c a d e) (_:Q (.int (↑a:Nat)) H)
class inductive FN(C CS CW CB:Addr)
 | mk (U:Y1) (x r:Addr) (d:gZ) (e:iD) (b:gG) (f:Nat) (g a:Row) (_:vs=[↥x,↥r]) (_:nB C CS CW CB U H x d e b f g) (_:bV H r a) (_:↑a<=1000) (_:oK ↑b a=true) (_:∀ c,aJ H c->Q .gc c)
theorem zQ:‹(2,63,["self"],(FL fj cO dc d9))›:=λD=>by
 specialize fm ["self"] D.oC.F;let⟨U,x,i,j,aF,l,m,rfl,⟨S,n,d,b,o,p,q,r,s,t,u,v,c,e,f,g,w,y,z,a⟩,k⟩:=h;exists _,#v[aM (gO (cY (pv 0) rfl) D.iN D.LH (jL D) hr bR)]
 all_goals try dsimp only[aS,aH]
 exact⟨Y,x,fj,d,_,↥b,1,a.L.hx,D.aR.cl,D.uh,1,b,c,Y,a.W.hx,1,b,c,e,f,g,aF,1,a.W.hx,a.W.hs,k⟩
theorem jU:‹(3,64,["self","row"],(FN fj cO dc d9))›:=λD=>by
 let g:bq c9 bu bZ cW cU cR 2 _ _ ["self"] (FL fj cO dc d9):=zQ D;specialize fm ["self","row"] D.WA.F;let⟨U,x,r,s,t,d,e,u,f,rfl,g,i,j,k,l⟩:=h;let⟨S,m,n,a,s,t,u,v,w,y,z,B,c,o,p,q,C,F,G,b⟩:=id g;exists _,#v[bO (kZ (mh (cV (cY (pv 0) rfl) D.iN D.hP (AU D) hr bR #[1]))) #v[iG] bg]
 all_goals try dsimp only[aS,aH]
 refine⟨Y,x,fj,n,_,↥a,1,b.L.hx,D.aR.cl,D.uh,1,a,c,Y,b.W.hx,1,Y,m,a,c,o,p,q,r,e,d,f,1,b.W,i,j,λa b=>⟨Y,?_⟩⟩;rw[k];exact gp (l a b)
abbrev fI:List Nat:=(Str.ofString "put").cps.toList
class inductive Tf(C CS CW CB:Addr)
 | mk (U:Y1) (x r:Addr) (c:gZ) (f:iD) (d:gG) (i:Nat) (j b:Row) (s p:Int) (a:dB) (_:vs=[↥x,.int s,.int p,↥r]) (_:nB C CS CW CB U H x c f d i j) (_:bV H r b) (_:L4 b) (_:↑d<=100000) (_:c.getLast?=⇑a) (_:↑a<=50) (_:↑c<=900) (_:↑f<=900) (_:uV s) (_:uV p) (_:qR ↑a s) (_:oK ↑d b=true) (_:(∃ e,Seen a e/\(0<=p/\p<=↑(e s))/\((∀ g,a[s.toNat]?=⇑g->(∃ l,mR (i6 a s.toNat (gi e p g (dQ (cX (cD b))))) l)/\
  ∀ (k:Y1) (h:Hp),nB C CS CW CB k h x (c++[i6 a s.toNat (gi e p g (dQ (cX (cD b))))]) (f++[(jo.nY fI [s,p] b).line]) d i j->uY U k H h->Q .gc h))))
def Cn(a:Wp):je (cL a)=(↑a:Int):=by rw[← qE _ (kB _),eT]
theorem qT{n:Nat}{a:Row}(h:oK n a=true):∀ p∈a,0<=p.1/\p.1<p.2/\p.2<=n:=λp b=>by
 let z:=List.all_eq_true.mp h p b;unfold MQ at z;simpa [and_assoc] using z
def uV.big{s:Int}(h:uV s):s<10^60:=by
 let⟨_,a⟩:=h;lia
theorem zR:‹(6,66,["self","sheet","place","row"],(Tf fj cO dc d9))›:=λD=>by
 specialize fm ["self","sheet","place","row","items"] D.hZ.F;let⟨ai,x,r,o,q,aF,nW,aO,f,s,p,g,rfl,C,u,j,c,v,w,y,l3,fs,fp,a,N,m⟩:=h;let⟨S,c,d,O,k,R,T,U,z,B,W,X,e,sg,ow,pw,db,tb,ab,b⟩:=id C;exists _,#v[aT (aC D.Yd (iz D) hr #[cV (pv 0) D.aR D.Sf (j8 D) hr bR #[1],2,2]),aT (cV (pv 0) D.aR D.WA (jU D) hr bR #[3]),aX 4 (aC D.Sb (oG D) hr #[gO (cY (pv 0) rfl) D.dH D.C3 (fY D) hr bR,1,2,aC D.E4 (mK D) hr #[3]]),aT (cV (pv 0) D.aR D.E6 (eN D) hr bR #[cZ #[bw,1,2,3],1,4])]
 all_goals try dsimp only[aS,aH]
 exists Y,x,d,Y,b.L.hx,1,Y,S,x,d,O,k,R,T,U,z,B,W,X,o,ab,q,g,s,1,b.L,v,w,y,a;let⟨e,c,l,k6⟩:=m;let m:↑(e s)<=10000:=c.ln s a.1 a.2;let m:=lY (e s);refine⟨e,c,λm H1 ho s1 fo=>?_⟩;let ak:Rt p p (je (cL (e s))):=by rw[Cn];exact⟨l.1,Int.le_refl _,l.2⟩
 refine⟨Y,Y,m,cL (e s),p,p,1,ho,by lia,ak,λm s2=>?_⟩;let m:=s1.trans s2;let uO:=b.same m;let JZ:=u.same m;refine⟨Y,x,d,Y,uO.L.hx,1,Y,ai,x,r,o,q,aF,nW,aO,f,1,C.same m,JZ,by have:=j.1;lia,N,λH3 C=>?_⟩;let n:=m.trans C;let m:=b.same n;let HV:=u.same n;let hp:=qT N;let sl:s.toNat<↑g:=by have:=a.1;have:=a.2;lia
 obtain⟨C,N⟩:∃ C,g[s.toNat]?=⇑C:=⟨_,mS sl⟩;let⟨⟨fB,am⟩,k7⟩:=k6 _ N;refine⟨Y,x,fj,d,_,↥k,1,m.L.hx,D.aR.cl,D.gJ,1,k,B,Y,m.L.W.hx,1,m.L.rws v w y λai H4 m F=>?_⟩;let hR:=m;let m:=HV.same F;refine⟨Y,Y,Y,r,f,1,m,by have:=j.1;lia,λoi m ak G aq=>?_⟩;let nn:lH f:=λm MK=>⟨(hp m MK).1,by have:=(hp m MK).2.1;lia⟩;refine⟨ai,oi,g,s,p,_,e,1,⟨hR.same G,by lia,c.es,c.sd,c.rk,c.ss,c.ln⟩,a.1,a.2,ak,uF (nP nn),?_,l,λC q2 I oZ gF s6 Ph=>?_⟩
 ·unfold cX;rw[cC];have:=iU f;have:=j.1;lia
 rw[N]at oZ;cases oZ;let Yk:aJ H I:=n.trans (F.trans (G.trans s6));let an:=b.same Yk
 let ap:q2≠z:=λi=>by
  let J:=(b.same (n.trans (F.trans G))).L.hb;rw[← i,Ph]at J;cases J
 refine⟨Y,x,d,Y,an.L.hx,1,Y,Y,Y,C2,λt c=>?_⟩;let L:=ao c (.tup [.str "put",.int s,.int p,↥r]);let ae:(aL I t (.tup [.str "put",.int s,.int p,↥r])) t=⇑(.tup [.str "put",.int s,.int p,↥r]):=af;generalize aL I t (.tup [.str "put",.int s,.int p,↥r])=c at L ae;let M:=Yk.trans L;let ag:=b.same M;let b:((s.toNat:Nat):Int)=s:=by have:=a.1;lia
 refine⟨Y,Y,S,x,d,O,k,R,T,U,z,B,W,X,o,ab,q,t,q2,.nY fI [s,p] f,s.toNat,_,g,fB,by rw[b];rfl,ag.L,⟨r,by rw[ae,oE];rfl,u.same M⟩,⟨(by show jT Xb fI=some 2;decide +kernel),?_,j⟩,gF.same L,ap,v,by have:=a.2;have:=a.1;lia,w,y,l3,am,λb H8 L8 Rl=>?_⟩
 ·intro J hy;let b1:=a.1;let b2:=l.1;rcases List.mem_cons.mp hy with i|i
  ·rw[i];exact⟨b1,fs.big⟩
  ·rw[List.mem_singleton.mp i];exact⟨b2,fp.big⟩
 ·let⟨a,b,c⟩:=ag.uN L8 Rl;exact k7 a H8 b (c.pre M)
theorem We.kQ{a:Y1}{H b:Hp}{x d s o p l:Addr}{n:Nat}{c:gG}{g:List (Str × V)}(h:We C a H x d s o p n c)(i:H l=⇑(.ins r t g))(j:¬ a l)(k:cF l H b):We C a b x d s o p n c :=
 h.fr (λf m e z=>k f m e (λq=>j (by rw[← q];exact z))) (λf f e=>k _ _ e (cS e i))
theorem bV.kQ{H a:Hp}{r l:Addr}{b:Row}{d:List (Str × V)}(h:bV H r b)(c:H l=⇑(.ins g i d))(k:cF l H a):bV a r b :=
 h.two (λf e=>k _ _ e (cS e c)) (λj f e=>k _ _ e (cS e c))
def nZ{H:Hp}{b a:Addr}{o:HO}(e:(aL (aL H b (.own c)) c o) a=none):H a=none:=by
 by_cases d:a=c
 ·rw[d,af]at e;cases e
 rw[aK d]at e;by_cases f:a=b
 ·rw[f,af]at e;cases e
 rw[aK f]at e;exact e
class inductive Co(C CS CW CB:Addr)
 | mk (x d:Addr) (_:vs=[↥x]) (_:H x=⇑(.ins C d [])) (_: ∀ (U:Y1) (b:Hp),nB C CS CW CB U b x [[]] [] [] 0 []->(∀ a,U a->a=x\/H a=none)->cF x H b->Q .gc b)
theorem qX:‹(3,57,["self"],(Co fj cO dc d9))›:=λD=>by
 specialize fm ["self"] D.hU.F;let⟨x,d,rfl,hx,aq⟩:=h;refine⟨_,#v[iI (pv 0) (nJ D.iN.X9 (vS D) (hr.mono (by decide)) rfl D.iN.m D.hH.b .nil bR) rfl,iI (pv 0) (nJ D.dH.X9 (uM D) (hr.mono (by decide)) rfl D.dH.m D.Z9.b .nil bR) rfl,iI (pv 0) (nJ D.j6.X9 (uB D) (hr.mono (by decide)) rfl D.j6.m D.ZW.b .nil bR) rfl,iI (pv 0) (nJ D.BY.X9 (vQ D) (hr.mono (by decide)) rfl D.BY.m D.hF.b .nil bR) rfl,iI (pv 0) (nJ D.E3.X9 (vP D) (hr.mono (by decide)) rfl D.E3.m D.hG.b .nil bR) rfl,iI (pv 0) (bJ ah) rfl],?_⟩
 all_goals try dsimp only[aS,aH]
 intro b dw ae ar _;refine⟨b,dw,1,af,λS T U B V1 k1 au av aw=>⟨1,?_⟩⟩;let s1:=l5 ae ar k1
 let fW:∀ a,(a=b\/a=S\/a=T\/a=U)->H a=none:=λa f=>by
  rcases f with rfl|rfl|rfl|rfl
  ·exact ae
  ·exact nZ au
  ·exact nZ av
  ·exact nZ aw
 let n:¬ (x=b\/x=S\/x=T\/x=U):=λf=>by
  have:=fW x f;rw[hx]at this;cases this
 refine⟨Y,x,fj,d,Y,s1 _ _ hx,D.aR.cl,D.uh,by decide,?_⟩;let q2:cF x H (aL B x (.ins fj d (_L2.eY "well" ↥b []))):=cF.trans (_gI.aJ.keep s1) (aG x _ _);let x2:(aL B x (.ins fj d (_L2.eY "well" ↥b []))) x=⇑(.ins fj d [("well",↥b)]):=af;let ag:cF x B (aL B x (.ins fj d (_L2.eY "well" ↥b []))):=aG x _ _;generalize aL B x (.ins fj d (_L2.eY "well" ↥b []))=H2 at q2 x2 ag;let V2:=V1.kQ (s1 _ _ hx) n ag;intro c C Xf B _;refine⟨c,C,1,af,λr s z W W3 k3 ax aB fz=>⟨1,?_⟩⟩;let s3:=l5 Xf B k3
 let up:∀ a,(aL (aL H2 C (.own c)) c (.ins cO C [])) a=none->H2 a=none:=λa f=>by
  by_cases e:a=c
  ·rw[e,af]at f;cases f
  rw[aK e]at f;by_cases g:a=C
  ·rw[g,af]at f;cases f
  rw[aK g]at f;exact f
 let fS:∀ a,(a=c\/a=r\/a=s\/a=z)->H2 a=none:=λa f=>by
  rcases f with rfl|rfl|rfl|rfl
  ·exact Xf
  ·exact up _ ax
  ·exact up _ aB
  ·exact up _ fz
 let o:¬ (x=c\/x=r\/x=s\/x=z):=λf=>by
  have:=fS x f;rw[x2]at this;cases this
 let x3:=s3 _ _ x2;let V3:=V2.same s3;refine⟨Y,x,fj,d,Y,x3,D.aR.cl,D.gJ,(by show 1<1000;decide),?_⟩;let X:cF x W (aL W x (.ins fj d (_L2.eY "shelf" ↥c [("well",↥b)]))):=aG x _ _;let x4:(aL W x (.ins fj d (_L2.eY "shelf" ↥c [("well",↥b)]))) x=⇑(.ins fj d [("well",↥b),("shelf",↥c)]):=af;generalize aL W x (.ins fj d (_L2.eY "shelf" ↥c [("well",↥b)]))=B at X x4;let W4:=W3.kQ x3 o X;let V4:=V3.kQ x3 n X;let q4:cF x H B:=(q2.trans (_gI.aJ.keep s3)).trans X;intro e p F B _;refine⟨e,p,1,af,λk H5 B5 R5 W X=>⟨1,?_⟩⟩;let s5:=l5 F B W;let Xn:=nZ X;let x5:=s5 _ _ x4;let W5:=W4.same s5;let V5:=V4.same s5;let G:e≠x:=(aA x4 F).symm;refine⟨Y,x,fj,d,Y,x5,D.aR.cl,D.sI,(by show 2<1000;decide),?_⟩;let m:cF x H5 (aL H5 x (.ins fj d (_L2.eY "blots" ↥e [("well",↥b),("shelf",↥c)]))):=aG x _ _;let x6:(aL H5 x (.ins fj d (_L2.eY "blots" ↥e [("well",↥b),("shelf",↥c)]))) x=⇑(.ins fj d [("well",↥b),("shelf",↥c),("blots",↥e)]):=af;generalize aL H5 x (.ins fj d (_L2.eY "blots" ↥e [("well",↥b),("shelf",↥c)]))=B at m x6;let W:=W5.kQ x5 o m;let X:=V5.kQ x5 n m;let B6:Bl d9 B e p k:=m _ _ B5 G;let R6:=R5.kQ x5 m;let q6:cF x H B:=(q4.trans (_gI.aJ.keep s5)).trans m;intro j m B ae _;refine⟨j,m,1,af,λag I _ m=>⟨1,?_⟩⟩;let t:=l5 B ae m;let x7:=t _ _ x6;let W7:=W.same t;let V7:=X.same t;let B7:Bl d9 I e p k:=t _ _ B6;let R7:=R6.same t;refine⟨Y,x,fj,d,Y,x7,D.aR.cl,D.CK,(by show 3<1000;decide),?_⟩;let u:cF x I (aL I x (.ins fj d (_L2.eY "knots" ↥j [("well",↥b),("shelf",↥c),("blots",↥e)]))):=aG x _ _;let x8:(aL I x (.ins fj d (_L2.eY "knots" ↥j [("well",↥b),("shelf",↥c),("blots",↥e)]))) x=⇑(.ins fj d [("well",↥b),("shelf",↥c),("blots",↥e),("knots",↥j)]):=af;generalize aL I x (.ins fj d (_L2.eY "knots" ↥j [("well",↥b),("shelf",↥c),("blots",↥e)]))=m at u x8;let B:=W7.kQ x7 o u;let I:=V7.kQ x7 n u;let W:Bl d9 m e p k:=u _ _ B7 G;let X:=R7.kQ x7 u;let q8:cF x H m:=(q6.trans (_gI.aJ.keep t)).trans u;intro q m t u _;refine⟨q,m,1,af,λae J _ m=>⟨1,?_⟩⟩;let v:=l5 t u m;let x9:=v _ _ x8;let W9:=B.same v;let V9:=I.same v;let B9:Bl d9 J e p k:=v _ _ W;let R9:=X.same v;refine⟨Y,x,fj,d,Y,x9,D.aR.cl,D.JH,(by show 4<1000;decide),?_⟩;let w:cF x J (aL J x (.ins fj d (_L2.eY "dues" ↥q [("well",↥b),("shelf",↥c),("blots",↥e),("knots",↥j)]))):=aG x _ _;let y:(aL J x (.ins fj d (_L2.eY "dues" ↥q [("well",↥b),("shelf",↥c),("blots",↥e),("knots",↥j)]))) x=⇑(.ins fj d [("well",↥b),("shelf",↥c),("blots",↥e),("knots",↥j),("dues",↥q)]):=af;generalize aL J x (.ins fj d (_L2.eY "dues" ↥q [("well",↥b),("shelf",↥c),("blots",↥e),("knots",↥j)]))=L at w y;let ai:=W9.kQ x9 o w;let ak:=V9.kQ x9 n w;let ab:Bl d9 L e p k:=w _ _ B9 G;let am:=R9.kQ x9 w;let Bx:cF x H L:=(q8.trans (_gI.aJ.keep v)).trans w;refine⟨iy,λi l=>⟨Y,x,fj,d,Y,ao l _ _ _ y,D.aR.cl,D.Es,(by show 5<1000;decide),?_⟩⟩;let an:i≠x:=(aA y l).symm
 let aO:¬ (i=c\/i=r\/i=s\/i=z):=λf=>by
  let⟨M,bu⟩:=ai.al i f;rw[l]at bu;cases bu
 let m:=ao l (.lst []);let t:cF x (aL L i (.lst [])) (aL (aL L i (.lst [])) x (.ins fj d (_L2.eY "book" ↥i [("well",↥b),("shelf",↥c),("blots",↥e),("knots",↥j),("dues",↥q)]))):=aG x _ _;let u:=(ai.same m).kQ (m _ _ y) o t;let v:=(ak.same m).kQ (m _ _ y) n t;let w:=t _ _ (m _ _ ab) G;let B:=(am.same m).kQ (m _ _ y) t;let⟨y,I,_⟩:=id R5;let aQ:∀ a,(a=c\/a=r\/a=s\/a=z)->a=x\/H a=none:=λa f=>.inr (iS q2 (λg=>by rw[g]at f;exact o f) (fS a f));refine aq (λa=>(a=c\/a=r\/a=s\/a=z)\/(a=b\/a=S\/a=T\/a=U)\/a=i\/a=x\/a=e\/a=k) _ ⟨E,d,b,c,e,j,q,i,C,r,s,dw,S,T,U,p,k,[],⟨af,u,?_,o,aO⟩,v,w,B,?_,?_,?_,?_,λa=>Iff.rfl⟩ ?_ ((Bx.trans (_gI.aJ.keep m)).trans t)
 ·rw[aK an];exact af
 ·exact⟨.nil,λ_ z=>by cases z⟩
 ·intro a g;let⟨M,ap⟩:=V2.al a g;refine⟨λN=>?_,λO=>?_,λR=>?_⟩
  ·rw[fS a N]at ap;cases ap
  ·let⟨b,bu⟩:=ak.al a g;rw[O,l]at bu;cases bu
  ·rw[R]at g;exact n g
 ·refine⟨λN=>?_,λg=>?_,λO=>?_⟩
  ·let⟨M,bu⟩:=W4.al e N;rw[F]at bu;cases bu
  ·let⟨M,bu⟩:=V4.al e g;rw[F]at bu;cases bu
  ·rw[O]at ab;let M:L i=⇑_:=ab;rw[l]at M;cases M
 ·refine⟨λN=>?_,λg=>?_,λO=>?_⟩
  ·let⟨M,bu⟩:=W4.al k N;rw[Xn]at bu;cases bu
  ·let⟨M,bu⟩:=V4.al k g;rw[Xn]at bu;cases bu
  ·let⟨b,M,_⟩:=id am;rw[O,l]at M;cases M
 ·intro a g;rcases g with g|g|g|g|g|g
  ·exact aQ a g
  ·exact .inr (fW a g)
  ·rw[g];exact .inr (iS Bx an l)
  ·exact .inl g
  ·rw[g];exact .inr (iS q4 G F)
  ·by_cases R:a=x
   ·exact .inl R
   ·rw[g]at R ⊢;exact .inr (iS q4 R Xn)
abbrev j':List Nat:=(Str.ofString "cut").cps.toList
abbrev ka:List Nat:=(Str.ofString "quote").cps.toList
class inductive Tg(C CS CW CB:Addr)
 | mk (U:Y1) (x:Addr) (d:gZ) (f:iD) (i:gG) (j:Nat) (k:Row) (s a b:Int) (c:dB) (_:vs=[↥x,.int s,.int a,.int b]) (_:nB C CS CW CB U H x d f i j k) (_:d.getLast?=⇑c) (_:↑c<=50) (_:↑d<=900) (_:↑f<=900) (_:uV s) (_:uV a) (_:uV b)
  (_:qR ↑c s) (_:∃ e,Seen c e/\Rt a b ↑(e s)/\(∀ g,c[s.toNat]?=⇑g->(∃ m,mR (i6 c s.toNat (bY e a b g)) m)/\
  ∀ (l:Y1) (h:Hp),nB C CS CW CB l h x (d++[i6 c s.toNat (bY e a b g)]) (f++[(jo.plain j' [s,a,b]).line]) i j k->uY U l H h->Q .gc h))
class inductive Mi(C CS CW CB:Addr)
 | mk (U:Y1) (x:Addr) (e:gZ) (f:iD) (i:gG) (j:Nat) (k:Row) (t p s a b:Int) (c:dB) (_:vs=[↥x,.int t,.int p,.int s,.int a,.int b]) (_:nB C CS CW CB U H x e f i j k) (_:e.getLast?=⇑c) (_:↑c<=50) (_:↑e<=900) (_:↑f<=900) (_:uV t) (_:uV p) (_:uV s) (_:uV a) (_:uV b)
  (_:qR ↑c t) (_:qR ↑c s) (_:(∃ d,Seen c d/\Rt a b ↑(d s)/\((0<=p/\p<=↑(d t))/\(∀ g,c[t.toNat]?=⇑g->(∃ m,mR (i6 c t.toNat (gi d p g (((d s).take b.toNat).drop a.toNat))) m)/\
  ∀ (l:Y1) (h:Hp),nB C CS CW CB l h x (e++[i6 c t.toNat (gi d p g (((d s).take b.toNat).drop a.toNat))]) (f++[(jo.plain ka [t,p,s,a,b]).line]) i j k->uY U l H h->Q .gc h))))
theorem zS:‹(6,68,["self","sheet","start","stop"],(Tg fj cO dc d9))›:=λD=>by
 specialize fm ["self","sheet","start","stop","items"] D.h8.F;let⟨U,x,z,I,J,L,M,s,q,r,f,rfl,c,g,k,l,t,u,v,w,b,y⟩:=h;let⟨S,z,i,I,d,J,L,M,N,m,O,R,T,U,W,X,db,tb,ab,a⟩:=id c;exists _,#v[aT (cV (cY (pv 0) rfl) D.dH D.E5 (dJ D) hr bR #[1]),aX 4 (aC D.Z5 (Df D) hr #[gO (cY (pv 0) rfl) D.dH D.C3 (fY D) hr bR,1,2,3]),aT (cV (pv 0) D.aR D.E6 (eN D) hr bR #[cZ #[bw,1,2,3],1,4])]
 all_goals try dsimp only[aS,aH]
 refine⟨Y,x,fj,i,_,↥d,1,a.L.hx,D.aR.cl,D.gJ,1,d,m,Y,a.L.W.hx,1,Y,a.L.Xk g b ?_⟩;let⟨z,c,e,B⟩:=y;refine⟨Y,x,fj,i,_,↥d,1,a.L.hx,D.aR.cl,D.gJ,1,d,m,Y,a.L.W.hx,1,a.L.rws g k l λd y m n=>?_⟩;let y:s.toNat<↑f:=by have:=b.1;have:=b.2;lia
 obtain⟨j,o⟩:∃ j,f[s.toNat]?=⇑j:=⟨_,mS y⟩;refine⟨Y,Y,Y,d,f,s,q,r,z,1,⟨m,by lia,c.es,c.sd,c.rk,c.ss,c.ln⟩,b.1,b.2,e,λc d f p C F G=>?_⟩;rw[o]at p;cases p;let⟨f,m⟩:=B j o;let c:=n.trans F;let d:=a.same c;exact⟨Y,x,i,Y,d.L.hx,1,Y,Y,Y,C2,λi d=>⟨Y,Y,a.chg (c.trans (ao d _)) af (oE _).symm (by show jT Qt j'=some 3;decide +kernel) (GN b.1 u.big (GN e.1 v.big (GN (by have:=e.1;have:=e.2.1;lia) w.big b'))) (C.same (ao d _)) (aU n G) g k l t b f m⟩⟩
theorem vW:‹(6,69,["self","target","place","source","start","stop"],(Mi fj cO dc d9))›:=λD=>by
 specialize fm ["self","target","place","source","start","stop","row","items"] D.h9.F;let⟨ag,x,a,b,aF,nW,aO,t,p,s,c,d,k,rfl,r,l,n,o,F,G,I,J,L,M,f,g,w⟩:=h;let⟨S,SW,i,N,j,O,R,T,U,q,W,X,dw,sg,ow,pw,db,tb,ab,e⟩:=id r;exists _,#v[aT (cV (cY (pv 0) rfl) D.dH D.E5 (dJ D) hr bR #[1]),aX 6 (aC D.gL (Sk D) hr #[cV (pv 0) D.aR D.Sf (j8 D) hr bR #[3],4,5]),aX 7 (aC D.Sb (oG D) hr #[gO (cY (pv 0) rfl) D.dH D.C3 (fY D) hr bR,1,2,aC D.E4 (mK D) hr #[6]]),aT (cV (pv 0) D.aR D.E6 (eN D) hr bR #[cZ #[bw,1,2,3,4,5],1,7])]
 all_goals try dsimp only[aS,aH]
 refine⟨Y,x,fj,i,_,↥j,1,e.L.hx,D.aR.cl,D.gJ,1,j,q,Y,e.L.W.hx,1,Y,e.L.Xk l f ?_⟩;exists Y,x,i,Y,e.L.hx,1,Y,S,x,i,N,j,O,R,T,U,q,W,X,a,ab,b,k,s,1,e.L,l,n,o,g;let⟨a,b,m,v,k8⟩:=w;refine⟨a,b,λr O w N R=>?_⟩;let O:↑(a s)<=10000:=b.ln s g.1 g.2;let O:=lY (a s);let tt:je (cL (a s))=↑(a s):=Cn _;refine⟨Y,Y,r,cL (a s),c,d,1,w,by lia,by rw[tt];exact m,λO w R r S=>?_⟩;let w:=N.trans r;let r:=e.same w;refine⟨Y,x,fj,i,_,↥j,1,r.L.hx,D.aR.cl,D.gJ,1,j,q,Y,r.L.W.hx,1,r.L.rws l n o λq r N j=>?_⟩;let S:=w.trans j;let r:t.toNat<↑k:=by have:=f.1;have:=f.2;lia
 obtain⟨u,y⟩:∃ u,k[t.toNat]?=⇑u:=⟨_,mS r⟩;let r:∀ {w:Row},jF w->lH w:=λh p w=>⟨(h p w).1,by have:=(h p w).2;lia⟩;have T:lH (cL (a s)):=r (BQ (nX b.sd b.rk b.ss s g.1 g.2));have w:lH (cD (kW c d 0 (cL (a s)))):=r (nP (zo c d _ 0 T))
 let r:↑(cD (kW c d 0 (cL (a s))))<=10000:=by
  have:=qO c d (cL (a s));rw[xX]at this;lia
 let ae:dQ (cX (cD (cD (kW c d 0 (cL (a s))))))=((a s).take d.toNat).drop c.toNat:=by
  rw[nV,kC _ λq r=>(w q r).2,oz _ _ _ (kB _),eT]
 refine⟨Y,Y,Y,O,Y,R.same j,by lia,λr R O j T=>?_⟩;let z:=S.trans j;refine⟨q,r,k,t,p,_,a,1,⟨N.same j,by lia,b.es,b.sd,b.rk,b.ss,b.ln⟩,f.1,f.2,O,uF (nP w),?_,v,λb j k B C s5 Ph=>?_⟩
 ·rw[xX];have:=iU (cD (kW c d 0 (cL (a s))));lia
 rw[y]at B;cases B;rw[ae]at C;let⟨B,c⟩:=k8 u y;let a:=z.trans s5;let b:=e.same a;exact⟨Y,x,i,Y,b.L.hx,1,Y,Y,Y,Y,Y,ZL,λd b=>⟨Y,Y,e.chg (a.trans (ao b _)) af (oE _).symm (by show jT Qt ka=some 5;decide +kernel) (GN f.1 G.big (GN v.1 I.big (GN g.1 J.big (GN m.1 L.big (GN (by have:=m.1;have:=m.2.1;lia) M.big b'))))) (C.same (ao b _)) (aU z Ph) l n o F f B c⟩⟩
abbrev kb:List Nat:=(Str.ofString "window").cps.toList
class inductive Pk(C CS CW CB:Addr)
 | mk (U:Y1) (x:Addr) (b:gZ) (d:iD) (g:gG) (h:Nat) (i:Row) (t p s:Int) (a:dB) (_:vs=[↥x,.int t,.int p,.int s]) (_:nB C CS CW CB U H x b d g h i) (_:b.getLast?=⇑a) (_:↑a<=50) (_:↑b<=900) (_:↑d<=900) (_:uV t) (_:uV p) (_:uV s)
  (_:qR ↑a t) (_:qR ↑a s) (_:(∃ c,Seen a c/\(0<=p/\p<=↑(c t))/\(∀ e,a[t.toNat]?=⇑e->(∃ k,mR (i6 a t.toNat (gi c p e [-1-s])) k)/\
  ∀ (j:Y1) (f:Hp),nB C CS CW CB j f x (b++[i6 a t.toNat (gi c p e [-1-s])]) (d++[(jo.plain kb [t,p,s]).line]) g h i->uY U j H f->Q .gc f)))
theorem uP:‹(6,71,["self","target","place","source"],(Pk fj cO dc d9))›:=λD=>by
 specialize fm ["self","target","place","source","items"] D.ia.F;let⟨ab,x,pe,aB,aF,nW,aO,t,I,s,j,rfl,J,f,q,r,L,M,N,O,c,k,R⟩:=h;let⟨ab,SW,g,wl,d,bl,kn,du,bk,l,st,op,dw,sg,ow,pw,db,tb,ae,a⟩:=id J;exists _,#v[aT (cV (cY (pv 0) rfl) D.dH D.E5 (dJ D) hr bR #[1]),aT (cV (cY (pv 0) rfl) D.dH D.E5 (dJ D) hr bR #[3]),aX 4 (aC D.Sb (oG D) hr #[gO (cY (pv 0) rfl) D.dH D.C3 (fY D) hr bR,1,2,bJ #[cZ #[bw,3]]]),aT (cV (pv 0) D.aR D.E6 (eN D) hr bR #[cZ #[bw,1,2,3],1,4])]
 all_goals try dsimp only[aS,aH]
 refine⟨Y,x,fj,g,_,↥d,1,a.L.hx,D.aR.cl,D.gJ,1,d,l,Y,a.L.W.hx,1,Y,a.L.Xk f c ?_⟩;refine⟨Y,x,fj,g,_,↥d,1,a.L.hx,D.aR.cl,D.gJ,1,d,l,Y,a.L.W.hx,1,Y,a.L.Xk f k ?_⟩;let⟨S,e,u,T⟩:=R;refine⟨Y,x,fj,g,_,↥d,1,a.L.hx,D.aR.cl,D.gJ,1,d,l,Y,a.L.W.hx,1,a.L.rws f q r λU v W X=>?_⟩;let d:t.toNat<↑j:=by have:=c.1;have:=c.2;lia
 obtain⟨m,w⟩:∃ m,j[t.toNat]?=⇑m:=⟨_,mS d⟩;refine⟨Y,Y,Y,mT,λb d=>⟨kH,λo y=>?_⟩⟩;let n:=ao d (.tup [.str "win",.int s]);let z:(aL v b (.tup [.str "win",.int s])) b=⇑(.tup [.str "win",.int s]):=af;generalize aL v b (.tup [.str "win",.int s])=p at n z y;let i:=ao y (.lst [↥b]);let B:(aL p o (.lst [↥b])) o=⇑(.lst [↥b]):=af;show wZ _ (aL p o (.lst [↥b])) _ _;generalize aL p o (.lst [↥b])=d at i B;let C:=X.trans (n.trans i);let l:b8 d ↥o [.win s]:=⟨o,Y,B,.cons ⟨b,1,i _ _ z⟩ .nil⟩;refine⟨U,o,j,t,I,[.win s],S,1,⟨W.same (n.trans i),by lia,e.es,e.sd,e.rk,e.ss,e.ln⟩,c.1,c.2,l,.one k.1,(by show 1<=10000;decide),u,λb d e F G s5 Ph=>?_⟩;rw[w]at F;cases F;rw[show dQ [aY.win s]=[-1-s] from rfl]at G;let⟨B,e⟩:=T m w;let b:=C.trans s5;let d:=a.same b;exact⟨Y,x,g,Y,d.L.hx,1,Y,Y,Y,C2,λg d=>⟨Y,Y,a.chg (b.trans (ao d _)) af (oE _).symm (by show jT Qt kb=some 3;decide +kernel) (GN c.1 M.big (GN u.1 N.big (GN k.1 O.big b'))) (G.same (ao d _)) (aU C Ph) f q r L c B e⟩⟩
abbrev kc:List Nat:=(Str.ofString "fix").cps.toList
class inductive pu(C CS CW CB:Addr)
 | mk (U:Y1) (x:Addr) (b:gZ) (c:iD) (f:gG) (g:Nat) (h:Row) (t:Int) (a:dB) (_:vs=[↥x,.int t]) (_:nB C CS CW CB U H x b c f g h) (_:b.getLast?=⇑a) (_:↑a<=50) (_:↑b<=900) (_:↑c<=900) (_:uV t)
  (_:qR ↑a t) (_:∃ d,Seen a d/\(∃ j,mR (i6 a t.toNat (d t)) j)/\
  ∀ (i:Y1) (e:Hp),nB C CS CW CB i e x (b++[i6 a t.toNat (d t)]) (c++[(jo.plain kc [t]).line]) f g h->uY U i H e->Q .gc e)
theorem zT:‹(6,72,["self","sheet"],(pu fj cO dc d9))›:=λD=>by
 specialize fm ["self","sheet"] D.ih.F;let⟨U,x,v,w,y,z,C,t,m,rfl,n,e,i,j,o,p,b,q⟩:=h;let⟨S,v,f,w,c,y,z,C,F,k,G,I,J,L,M,N,O,R,T,a⟩:=id n;exists _,#v[aT (cV (cY (pv 0) rfl) D.dH D.E5 (dJ D) hr bR #[1]),aT (cV (pv 0) D.aR D.E6 (eN D) hr bR #[cZ #[bw,1],1,aC D.Z7 (zI D) hr #[gO (cY (pv 0) rfl) D.dH D.C3 (fY D) hr bR,1]])]
 all_goals try dsimp only[aS,aH]
 refine⟨Y,x,fj,f,_,↥c,1,a.L.hx,D.aR.cl,D.gJ,1,c,k,Y,a.L.W.hx,1,Y,a.L.Xk e b ?_⟩;let⟨r,sn,⟨s,B⟩,u⟩:=q;refine⟨Y,x,f,Y,a.L.hx,1,Y,mT,λg n=>?_⟩;let d:=ao n (.tup [.str "fix",.int t]);let l:(aL H g (.tup [.str "fix",.int t])) g=⇑(.tup [.str "fix",.int t]):=af;generalize aL H g (.tup [.str "fix",.int t])=g at d l;let g:=a.same d;refine⟨Y,Y,x,fj,f,_,↥c,1,g.L.hx,D.aR.cl,D.gJ,1,c,k,Y,g.L.W.hx,1,g.L.rws e i j λq g f c=>?_⟩;refine⟨Y,q,m,t,r,1,⟨f,by lia,sn.es,sn.sd,sn.rk,sn.ss,sn.ln⟩,b.1,b.2,λg n k f m=>?_⟩;let g:=d.trans (c.trans f);let n:=a.same g;exact a.chg g (f _ _ (c _ _ l)) (oE _).symm (by show jT Qt kc=some 1;decide +kernel) (GN b.1 p.big b') k (aU (d.trans c) m) e i j o b ⟨s,B⟩ u
abbrev kf:List Nat:=(Str.ofString "move").cps.toList
class inductive Xo(C CS CW CB:Addr)
 | mk (U:Y1) (x:Addr) (e:gZ) (g:iD) (j:gG) (k:Nat) (l:Row) (s a b c:Int) (d:dB) (_:vs=[↥x,.int s,.int a,.int b,.int c]) (_:nB C CS CW CB U H x e g j k l) (_:e.getLast?=⇑d) (_:↑d<=50) (_:↑e<=900) (_:↑g<=900) (_:uV s) (_:(-100000<a/\a<100000)) (_:(-100000<b/\b<100000)) (_:(-100000<c/\c<100000))
  (_:qR ↑d s) (_:∃ f,Seen d f/\Mv a b c ↑(f s)/\(∀ h,d[s.toNat]?=⇑h->(∃ n,mR (i6 d s.toNat (lQ f a b c h)) n)/\
  ∀ (m:Y1) (i:Hp),nB C CS CW CB m i x (e++[i6 d s.toNat (lQ f a b c h)]) (g++[(jo.plain kf [s,a,b,c]).line]) j k l->uY U m H i->Q .gc i))
theorem xF:‹(6,73,["self","sheet","start","stop","to"],(Xo fj cO dc d9))›:=λD=>by
 specialize fm ["self","sheet","start","stop","to","items"] D.ii.F;let⟨U,x,C,L,M,N,O,s,q,r,t,f,rfl,c,g,k,l,u,v,w,y,z,b,B⟩:=h;let⟨S,C,i,L,e,M,N,O,R,m,T,U,W,X,ow,pw,db,tb,ab,a⟩:=id c;exists _,#v[aT (cV (cY (pv 0) rfl) D.dH D.E5 (dJ D) hr bR #[1]),aX 5 (aC D.Z6 (zH D) hr #[gO (cY (pv 0) rfl) D.dH D.C3 (fY D) hr bR,1,2,3,4]),aT (cV (pv 0) D.aR D.E6 (eN D) hr bR #[cZ #[bw,1,2,3,4],1,5])]
 all_goals try dsimp only[aS,aH]
 refine⟨Y,x,fj,i,_,↥e,1,a.L.hx,D.aR.cl,D.gJ,1,e,m,Y,a.L.W.hx,1,Y,a.L.Xk g b ?_⟩;let⟨C,c,d,F⟩:=B;refine⟨Y,x,fj,i,_,↥e,1,a.L.hx,D.aR.cl,D.gJ,1,e,m,Y,a.L.W.hx,1,a.L.rws g k l λe B m n=>?_⟩;let B:s.toNat<↑f:=by have:=b.1;have:=b.2;lia
 obtain⟨j,o⟩:∃ j,f[s.toNat]?=⇑j:=⟨_,mS B⟩;refine⟨Y,Y,Y,Y,e,f,s,q,r,t,C,1,⟨m,by lia,c.es,c.sd,c.rk,c.ss,c.ln⟩,b.1,b.2,d,λc e f p G I J=>?_⟩;rw[o]at p;cases p;let⟨B,f⟩:=F j o;let c:=n.trans I;let e:=a.same c;exact⟨Y,x,i,Y,e.L.hx,1,Y,Y,Y,Y,Wg,λt e=>⟨Y,Y,a.chg (c.trans (ao e _)) af (oE _).symm (by show jT Qt kf=some 4;decide +kernel) (GN b.1 v.big (GN d.1.1 (uV.Xa w).big (GN (by have:=d.1.1;have:=d.1.2.1;lia) (uV.Xa y).big (GN (by have:=d.2;lia) (uV.Xa z).big b')))) (G.same (ao e _)) (aU n J) g k l u b B f⟩⟩
class inductive Mj(C:Addr)
 | mk (c:Y1) (x d s o p:Addr) (n:Nat) (b:gG) (a:Int) (_:vs=[↥x,.int a]) (_:We C c H x d s o p n b) (_:0<=a) (_:a<(↑b:Nat)) (_:Q .gc H)
class inductive Pn(C:Addr)
 | mk (b:Y1) (x d s o p:Addr) (n:Nat) (a:gG) (j:Nat) (q:Int × Nat) (_:vs=[↥x,.int (j:Nat)]) (_:We C b H x d s o p n a) (_:a[j]?=⇑q) (_:Q (qu q.2) H)
theorem pJ:‹(2,74,["self","address"],(Mj dc))›:=λD=>by
 specialize fm ["self","address"] D.im.F;let⟨S,x,d,s0,o,p,n,b,a,rfl,W,c,e,k⟩:=h;exists _,#v[bO (kZ (pX gC jR az (pv 1) (gO (pv 0) D.iN D.LH (jL D) hr bR))) #v[iG] bg]
 all_goals try dsimp only[aS,aH]
 refine⟨Y,Z,Y,dM (λa=>?_) (λa=>absurd (decide_eq_true c) a)⟩;exists Y,x,d,Y,W.hx,1,x,d,s0,o,p,b,1,W.hx,W.hs,Z,Y;rw[decide_eq_true e];exact gp k
theorem Dr:‹(3,75,["self","address"],(Pn dc))›:=λD=>by
 specialize fm ["self","address"] D.io.F;let⟨S,x,d,s0,o,p,n,b,j,q,rfl,W,a,k⟩:=h;let c:=(List.getElem?_eq_some_iff.mp a).1;exists _,#v[aT (cV (pv 0) D.iN D.im (pJ D) hr bR #[1]),aM (aP bH (cY (pv 0) rfl) (pv 1))]
 all_goals try dsimp only[aS,aH]
 refine⟨Y,x,d,Y,W.hx,1,Y,S,x,d,s0,o,p,n,b,(j:Nat),1,W,by lia,by lia,?_⟩;exact⟨Y,x,dc,d,_,↥s0,1,W.hx,D.iN.cl,D.sH,1,Y,s0,Q,V,bL.of W.hs,(cP (by unfold Pa;rw[fK,a];rfl):_=⇑(qu q.2)),k⟩
def kT(b:gG)(c:Row)(v:Nat)(a:Int):Nat:=if Lv c a=true then v else ((b[a.toNat]?).map Prod.snd).getD 0
class inductive Po(C CS CW CB:Addr)
 | mk (U:Y1) (x r:Addr) (f:gZ) (g:iD) (c:gG) (h:Nat) (d b:Row) (v:Nat) (_:vs=[↥x,↥r,qu v]) (_:nB C CS CW CB U H x f g c h d) (_:bV H r b) (_:(∀ p∈b,p.1<=p.2)) (_:↑(bC b)<=100000) (_:(∀ a∈bC b,0<=a/\a<(↑c:Nat))) (_:∀ e,aJ H e->Q (.str (dY ((bC b).map (kT c d v)))) e)
theorem uQ:‹(4,76,["self","row","veil"],(Po fj cO dc d9))›:=λD=>by
 specialize fm ["self","row","veil"] D.ip.F;let⟨X,x,y,pe,aB,b,I,c,g,v,rfl,z,J,L,ls,M,N⟩:=h;let⟨X,O,s,m,sh,n,kn,du,bk,dS,st,op,t,R,S,T,w,U,ab,W⟩:=id z;refine⟨_,#v[aM (dX PySem.F.plainAttrs_str PySem.F.slot_str_join PySem.F.type_str_join zu bw #[gS (N:=["address","self","veil"]) (kG (c:=cB lu) (f:=["self","row","veil"]) (d:=[none,some 0,some 2]) rfl rfl rfl nofun nofun rfl nofun rfl nofun) rfl (cM (aC D.gN (C6 D) hr #[1])) (λ_ _ _ _ _ _=>(bX 0)) (λ_ _ _ _ _ _=>gQ) (λ_ _ _ _ _ _=>(Ef (mh (cV (JV (pv 1) rfl) D.j6 D.ZZ (zy D) hr bR #[0])) (pv 2) (cV (JV (pv 1) rfl) D.iN D.io (Dr D) hr bR #[0])))])],?_⟩
 all_goals try dsimp only[aS,aH]
 refine⟨1,Y,y,g,1,J,L,by lia,λy J z B L=>?_⟩;refine⟨y,1,⟨_,bL.of z⟩,λk o=>gK (K:=bZ) (h:=y) (a:=(bC g).map V.int) (λi l f=>∃ u:Option V,l=[u,⇑↥x,⇑(qu v)]/\f k=⇑(.lst ((((bC g).take i).map (kT b c v)).map qu))/\aJ J f) ⟨none,1,af,ao o _⟩ (by rintro i l f _ ⟨_,_,_,e⟩;exact bL.of (e _ _ z)) ?_ ?_⟩
 ·rintro i ae l f C ⟨u,rfl,j,e⟩;rw[fK]at C;let⟨a,p,rfl⟩:=Option.map_eq_some_iff.mp C;let y:=(List.getElem?_eq_some_iff.mp p).1;let⟨y,z⟩:=M a (lK p);let d:=W.same (B.trans e);obtain⟨q,F⟩:∃ q,b[a.toNat]?=⇑q:=⟨_,mS ∅⟩
  let G:((((bC g).take (i+1)).map (kT b c v)).map qu)=(((bC g).take i).map (kT b c v)).map qu++[qu (kT b c v a)]:=by
   rw[take_snoc p,gP,gP];rfl
  exists Y,x,fj,s,_,↥n,1,d.L.hx,D.aR.cl,D.sI,1,n,w,Y,d.B,1,Y,n,w,U,c,a,1,d.B,d.R,d.pG
  cases g:Lv c a with
  | true =>
   let r:kT b c v a=v:=if_pos g;refine⟨Y,iF ⟨Y,_,j,aN (by rw[cC,cC,gm];lia),Y,?_,bP o e (aG k _ _)⟩⟩;rw[af,G,r]
  | false =>
   let r:kT b c v a=q.2:=by
    unfold kT;rw[if_neg (by rw[g];exact lT),F];rfl
   refine⟨Y,gp ⟨Y,x,fj,s,_,↥m,1,d.L.hx,D.aR.cl,D.uh,1,m,t,Y,d.W.hx,1,Y,O,m,t,R,S,T,I,b,a.toNat,q,by rw[show ((a.toNat:Nat):Int)=a by lia];rfl,d.W,F,?_⟩⟩;refine⟨_,j,aN (by rw[cC,cC,gm];lia),Y,?_,bP o e (aG k _ _)⟩;rw[af,G,r]
 ·rintro l f ⟨u,rfl,j,e⟩;rw[cC,gU]at j;exact⟨k,Y,1,j,by rw[cC];lia,N f (B.trans e)⟩
class inductive Ml(C:Addr)
 | mk (c:Y1) (x d s o p:Addr) (n:Nat) (a:gG) (h:Int) (_:vs=[↥x,.int h]) (_:We C c H x d s o p n a) (_:n<=1000) (_: ∀ (q:Addr) (b:Hp),bV b q (cL (lC h 0 a))->↑(cL (lC h 0 a))<=n->aJ H b->H q=none->Q ↥q b)
theorem zU:‹(2,77,["self","hand"],(Ml dc))›:=λD=>by
 specialize fm ["self","hand"] D.iq.F;let⟨S,x,m,s0,r,p,t,u,h,rfl,W,w,k⟩:=h;let⟨r,t,u,w,y,n,B,C,F,o,j,c⟩:=id W;let r:=gR hr;exists _,#v[aM (aC D.Wi (nT D) hr #[N7 r (cY (pv 0) rfl) (pv 1) (bJ ah) ⟨V,V⟩])]
 all_goals try dsimp only[aS,aH]
 refine⟨Y,x,dc,m,_,↥p,1,n,D.iN.cl,D.lV,1,p,1,.inl ⟨_,.inl j⟩,Y,iy,λz m=>?_⟩;let a:aJ H (aL H z (.lst [])):=ao m _;let l:(aL H z (.lst [])) z=⇑(.lst []):=af;generalize aL H z (.lst [])=m at a l;exists _,gW.k (k:=Sum.inl h) (a _ _ j)
 cases e:cI o (Sum.inl h) with
 | none =>
  refine⟨z,[],1,⟨[],l,.nil⟩,Nat.zero_le _,λq d f g i=>k q d ?_ ?_ (a.trans g) (aU a i)⟩
  ·rw[c.gc h e];exact f
  ·rw[c.gc h e];exact Nat.zero_le _
 | some v =>
  let⟨s,b,rfl,m,n,lo,R,j,l,o⟩:=c.got h v e;refine⟨s,b,1,R.same a,by lia,λq d f g i=>k q d ?_ ?_ (a.trans g) (aU a i)⟩
  ·rw[← l,← nM b j];exact f
  ·rw[← l,← nM b j];exact iC (iU b) ∅
def qw.Pp{U j D:Y1}{H:Hp}{x k l m n o p h q G I db t d:Addr}{a:gZ}{c:Wp}{f:iD}{r:gG}{v:Nat}{y:Row}{b:dB}{e:jo}{Q:VK}{E:XK}(z:qw C A J M U j D H x k l m n o p h N q O G sg ow I db tb a c f r v y)(T:e.At H t)(ok:e.Ok)(hc:H d=⇑(.lst []))(nc:d≠h)(hl:a.getLast?=⇑b)(l1:↑b<=50)(l2:↑a<=900)(l3:↑f<=900)(ab:∀ (g:Y1) (i:Hp),nB C A J M g i x (a++[b]) (f++[e.line]) r v y->uY U g H i->Q .gc i):J8 C A [↥x,↥t,↥d] H Q E:=by
 let F:↑(qW a)=↑a:=cC _;refine⟨j,x,k,l,m,n,o,p,h,N,q,O,qW a,c,f,t,d,e,[],[],b.map aI,1,z.L,T,ok,hc,nc,.nil,(λ_ s=>by cases s),kO hl,(λs u e=>by cases e),(by show 0<=200;decide),by rw[cC];lia,by lia,by lia,λF u s w=>?_⟩
 let B:qW a++[nA (b.map aI) []]=qW (a++[b]):=by
  show _=(a++[b]).map _;rw[gP];rfl
 let F:c++List.replicate (↑(nA (b.map aI) [])-↑(b.map aI)) ((↑(qW a):Nat):Int)=c:=by
  show c++List.replicate (↑(b.map aI)-↑(b.map aI)) _=c;rw[Nat.sub_self];exact gV _
 rw[B,F]at s;let⟨g,B,F⟩:=z.uN s w;exact ab g u B F
def uY.trans{U c d:Y1}{H h i:Hp}(f:uY U c H h)(g:uY c d h i):uY U d H i:=by
 let j:∀ a b,H a=⇑b->¬ U a->¬ c a:=λa b e n z=>by
  rcases f.1 a z with y|y
  ·exact n y
  ·rw[y]at e;cases e
 refine⟨λa z=>?_,λa b e n=>g.2.1 _ _ (f.2.1 _ _ e n) (j a b e n),λa j e=>g.2.2 _ _ (f.2.2 _ _ e)⟩;rcases g.1 a z with y|y
 ·exact f.1 a y
 cases e:H a with
 | none=>exact .inr rfl
 | some b =>
  by_cases u:U a
  ·exact .inl u
  ·rw[f.2.1 _ _ e u]at y;cases y
def qw.US{U f g:Y1}{H c:Hp}{x o p r b v y h A C D db t:Addr}{G:gZ}{I:Wp}{J:iD}{M:gG}{N:Nat}{aO j:Row}(ab:qw ae CS CW O U f g H x o p r b v y h dS A op C sg ow D db tb G I J M N aO)(B:Bl O c b db t)(R:bV c t j)(pG:uy j)(k:cF b H c)(T:H t=none):qw ae CS CW O (λa=>f a\/g a\/a=h\/a=x\/a=b\/a=t) f g c x o p r b v y h dS A op C sg ow D db t G I J M N j/\uY U (λa=>f a\/g a\/a=h\/a=x\/a=b\/a=t) H c:=by
 let⟨L,W,q,m,w,dj,i,dt,u⟩:=ab;let s:x≠b:=cS L.hx q;let l:∀ a m,H a=⇑(.tup m)->c a=⇑(.tup m):=λa m e=>k _ _ e (cS e q);have n:∀ {a d},H a=⇑d->a≠t:=λe z=>by rw[z,T]at e;cases e
 refine⟨⟨L.fr (λa d e z=>k _ _ e ?_) l,W.fr (λa d e z=>k _ _ e λq=>i.2.1 (by rw[← q];exact z)) l,B,R,pG,dj,i,⟨λz=>?_,λz=>?_,(n L.hb).symm⟩,λa=>Iff.rfl⟩,λa z=>?_,λa d e m=>k _ _ e λq=>m ((u a).mpr (.inr (.inr (.inr (.inr (.inl q)))))),l⟩
 ·rintro rfl;rcases z with z|z|z
  ·exact i.1 z
  ·exact i.2.2 z
  ·exact s z.symm
 ·let⟨d,e⟩:=L.W.al t z;exact n e rfl
 ·let⟨d,e⟩:=W.al t z;exact n e rfl
 ·rcases z with z|z|z|z|z|z
  ·exact .inl ((u a).mpr (.inl z))
  ·exact .inl ((u a).mpr (.inr (.inl z)))
  ·exact .inl ((u a).mpr (.inr (.inr (.inl z))))
  ·exact .inl ((u a).mpr (.inr (.inr (.inr (.inl z)))))
  ·exact .inl ((u a).mpr (.inr (.inr (.inr (.inr (.inl z))))))
  ·exact .inr (by rw[z];exact T)
class inductive Th(C CS CW CB:Addr)
 | mk (U:Y1) (x r:Addr) (e:gZ) (f:iD) (b:gG) (c:Nat) (g a:Row) (h:Int) (_:vs=[↥x,.int h,↥r]) (_:nB C CS CW CB U H x e f b c g) (_:bV H r a) (_:↑a<=29) (_:oK ↑b a=true) (_:c<64) (_:∀ y,In a y->y∈lC h 0 b) (_:∀ d,aJ H d->Q .gc d)
theorem kU:‹(4,78,["self","hand","row"],(Th fj cO dc d9))›:=λD=>by
 specialize fm ["self","hand","row"] D.WC.F;let⟨U,x,r,n,o,a,f,p,b,h,rfl,e,g,C,i,F,own,q⟩:=h;let⟨S,s,j,c,C,F,G,I,J,L,M,N,k,t,u,v,O,R,T,l⟩:=id e;refine⟨_,#v[aT (cV (pv 0) D.aR D.WA (jU D) hr bR #[2]),bO (jd (aC D.Wn (zx D) hr #[2,cV (cY (pv 0) rfl) D.iN D.iq (zU D) hr bR #[1]]) (λ_=>rfl)) #v[iG] bg],?_⟩
 all_goals try dsimp only[aS,aH]
 refine⟨Y,x,j,Y,l.L.hx,1,Y,U,x,r,n,o,a,f,p,b,1,e,g,by lia,i,λe d=>?_⟩;let e:=l.same d;refine⟨Y,Y,x,fj,j,_,↥c,1,e.L.hx,D.aR.cl,D.uh,1,c,k,Y,e.W.hx,1,Y,s,c,k,t,u,v,f,a,h,1,e.W,by lia,λc f e j m k=>?_⟩;let f:Ok b:=λp j=>by have:=(qT i p j).2.1;lia
 refine⟨r,c,b,Y,g.same (d.trans m),e,by lia,by lia,f,kB _,λo w c _ z e=>?_⟩
 let none:iE (cL (lC h 0 a)) (bC b)=[]:=by
  unfold iE;refine List.filter_eq_nil_iff.mpr λy b=>?_;have e:Lv (cL (lC h 0 a)) y=true:=iW.mpr (EV.mpr (own y (jq.mp b)));rw[e];decide
 rw[none]at c;let⟨a,y,B⟩:=c;cases B;exact⟨false,.inl ⟨[],bL.of y,1⟩,gp (q w ((d.trans m).trans z))⟩
abbrev eI:List Nat:=(Str.ofString "blot").cps.toList
abbrev eJ:List Nat:=(Str.ofString "lift").cps.toList
class inductive xY(C CS CW CB:Addr)(n:List Nat)(f:Prop->Prop->Prop)
 | mk (U:Y1) (x r:Addr) (b:gZ) (d:iD) (c:gG) (e:Nat) (g a:Row) (h:Int) (i:dB) (_:vs=[↥x,.int h,↥r]) (_:nB C CS CW CB U H x b d c e g) (_:bV H r a) (_:L4 a) (_:ny h) (_:oK ↑c a=true) (_:e<64) (_:∀ y,In a y->y∈lC h 0 c) (_:↑g+↑a<64) (_:b.getLast?=⇑i) (_:↑i<=50) (_:↑b<=900) (_:↑d<=900) (_:∀ (k:Y1) (j:Hp) (l:Row),nB C CS CW CB k j x (b++[i]) (d++[(jo.nY n [h] a).line]) c e l->(∀ y,In l y↔f (In g y) (In a y))->uY U k H j->Q .gc j)
theorem o6:‹(5,79,["self","hand","row"],(xY fj cO dc d9 eI Or))›:=λD=>by
 specialize fm ["self","hand","row"] D.iw.F;let⟨U,x,r,B,C,F,G,n,b,h,f,rfl,a,o,q,I,s,J,own,L,M,N,O,R,S⟩:=h;let⟨f,X,d,wl,sh,e,kn,du,T,dS,st,op,dw,sg,ow,pw,t,W,ab,u⟩:=id a;exists _,#v[aT (cV (pv 0) D.aR D.WC (kU D) hr bR #[1,2]),aT (cV (cY (pv 0) rfl) D.j6 D.ZX (AK D) hr bR #[2]),aT (cV (pv 0) D.aR D.OD (iZ D) hr bR #[cZ #[bw,1,2],bJ ah])]
 all_goals try dsimp only[aS,aH]
 let X:=q.1;let ab:Ok b:=λp f=>by have:=(qT s p f).2.1;lia
 refine⟨Y,x,d,Y,u.L.hx,1,Y,Y,U,x,r,B,C,F,G,n,b,h,1,a,o,X,s,J,own,λa g=>?_⟩;let a:=u.same g;let s:=o.same g;refine⟨Y,x,fj,d,_,↥e,1,a.L.hx,D.aR.cl,D.sI,1,e,t,Y,a.B,1,Y,e,r,t,W,n,b,1,a.B,a.R,s,L,a.pG.ok,ab,λu ae v n R2 o ag B e t=>?_⟩;let⟨i,f2⟩:=a.US n R2 o e t;let MJ:=s.obj a.B e;refine⟨Y,x,d,Y,i.L.hx,1,Y,Y,LA,λp f=>⟨iy,λc j=>?_⟩⟩;let k:=ao f (.tup [.str "blot",.int h,↥r]);let w:(aL v p (.tup [.str "blot",.int h,↥r])) p=⇑(.tup [.str "blot",.int h,↥r]):=af;generalize aL v p (.tup [.str "blot",.int h,↥r])=y at k w j;let l:=ao j (.lst []);let z:(aL y c (.lst [])) c=⇑(.lst []):=af
 let nc:c≠T:=λa=>by
  have:=k _ _ i.L.hb;rw[← a,j]at this;cases this
 generalize aL y c (.lst [])=a at l z;let m:=k.trans l;refine (i.same m).Pp (e:=.nY eI [h] b) ⟨r,by rw[l _ _ w,oE];rfl,MJ.same m⟩ ⟨(by show jT Xb eI=some 1;decide +kernel),λy a=>by rw[List.mem_singleton.mp a];exact I,q⟩ z nc M N O R λa b c d=>?_;exact S a b ae c ag (((f2.pre g).trans (uY.same m)).trans d)
theorem o7:‹(5,80,["self","hand","row"],(xY fj cO dc d9 eJ λB C=>B/\¬ C))›:=λD=>by
 specialize fm ["self","hand","row"] D.iT.F;let⟨U,x,r,F,G,I,J,n,b,h,f,rfl,a,o,q,L,s,M,own,lv,N,O,R,S,T⟩:=h;let⟨f,SW,d,wl,sh,e,kn,du,W,dS,st,op,dw,sg,ow,pw,t,X,ab,u⟩:=id a;exists _,#v[aT (cV (pv 0) D.aR D.WC (kU D) hr bR #[1,2]),aT (cV (cY (pv 0) rfl) D.j6 D.ZY (AL D) hr bR #[2]),aT (cV (pv 0) D.aR D.OD (iZ D) hr bR #[cZ #[bw,1,2],bJ ah])]
 all_goals try dsimp only[aS,aH]
 let lr:=q.1;let ab:Ok b:=λp f=>by have:=(qT s p f).2.1;lia
 refine⟨Y,x,d,Y,u.L.hx,1,Y,Y,U,x,r,F,G,I,J,n,b,h,1,a,o,lr,s,M,own,λa g=>?_⟩;let a:=u.same g;let s:=o.same g;refine⟨Y,x,fj,d,_,↥e,1,a.L.hx,D.aR.cl,D.sI,1,e,t,Y,a.B,1,Y,e,r,t,X,n,b,1,a.B,a.R,s,by lia,by lia,a.pG,ab,λu ae v n R2 o ag F e t=>?_⟩;let⟨i,f2⟩:=a.US n R2 o e t;let MJ:=s.obj a.B e;refine⟨Y,x,d,Y,i.L.hx,1,Y,Y,LA,λp f=>⟨iy,λc j=>?_⟩⟩;let k:=ao f (.tup [.str "lift",.int h,↥r]);let w:(aL v p (.tup [.str "lift",.int h,↥r])) p=⇑(.tup [.str "lift",.int h,↥r]):=af;generalize aL v p (.tup [.str "lift",.int h,↥r])=y at k w j;let l:=ao j (.lst []);let z:(aL y c (.lst [])) c=⇑(.lst []):=af
 let nc:c≠W:=λa=>by
  have:=k _ _ i.L.hb;rw[← a,j]at this;cases this
 generalize aL y c (.lst [])=a at l z;let m:=k.trans l;refine (i.same m).Pp (e:=.nY eJ [h] b) ⟨r,by rw[l _ _ w,oE];rfl,MJ.same m⟩ ⟨(by show jT Xb eJ=some 1;decide +kernel),λy a=>by rw[List.mem_singleton.mp a];exact L,q⟩ z nc N O R S λa b c d=>?_;exact T a b ae c ag (((f2.pre g).trans (uY.same m)).trans d)
def nB.m{U:Y1}{H:Hp}{x:Addr}{a:gZ}{b:iD}{c:gG}{d:Nat}{e:Row}{m:Str}{k:Prop}(L:nB C r t u U H x a b c d e)(q:k)(h:∀ f g i j l n:V,List.lookup m [("well",f),("shelf",g),("blots",i),("knots",j),("dues",l),("book",n)]=none:=by intros;rfl):Vt C m ↥x H k:=by
 let⟨s,v,o,w,y,z,A,B,D,F,G,I,J,M,N,O,R,S,T,p⟩:=id L;exact⟨x,o,Y,p.L.hx,h ..,q⟩
theorem Xr{lo:Int}{k:Nat}{d:_L2.St}{q:Int->Bool}{j:TG}{tt:TT}{l:TE}{b:Hp}{Q:VK}(z:k<=50000)(m:b c=none)
  (p:∀ (u:Option V) (y:Int) (a:Hp) (L:V->_L2.St->Hp->Prop) (M:_L2.St->Hp->Prop),lo<=y->y<lo+k->aJ b a->(if q y=true then L (.int y) (⇑(.int y)::d) a else M (⇑(.int y)::d) a)->j (.int y) (u::d) a fun f r=>tt f r λt n=>if t=true then l f n λv b=>L v f b else M f n)
  (x:∀ a,a c=⇑(.lst (((run lo k).filter q).map V.int))->aJ b a->Q ↥c a):qH (Jj lo k) c j tt l (none::d) (aL b c (.lst [])) Q:=by
 refine qo (λi h a=>∃ u:Option V,h=u::d/\a c=⇑(.lst (((run lo i).filter q).map V.int))/\aJ b a) ⟨none,1,af,ao m _⟩ ?_ ?_
 ·rintro i h a s ⟨u,rfl,g,e⟩;let s:=List.length_filter_le q (run lo i);rw[dG]at s;refine p u _ a _ _ ∅ ∅ e ?_
  cases o:q (lo+i) with
  | true =>
   refine iF ⟨_,g,(by rw[cC];exact aN ∅),Y,?_,bP m e (aG c _ _)⟩;rw[af,jD,List.filter_append,List.filter_cons_of_pos o,gP];rfl
  | false =>
   refine gp ⟨Y,?_,e⟩;rw[jD,List.filter_append,List.filter_cons_of_neg (by rw[o];exact lT),List.filter_nil,gV];exact g
 ·rintro h a ⟨u,rfl,g,e⟩;exact x a g e
theorem Xs{z:Addr}{d:Wp}{f:_L2.St}{q:Int->Bool}{k:TG}{tt:TT}{l:TE}{b:Hp}{Q:VK}(t:b z=⇑(.lst (d.map V.int)))(D:↑d<=50000)(m:b e=none)
  (v:∀ (u:Option V) (y:Int) (a:Hp) (L:V->_L2.St->Hp->Prop) (M:_L2.St->Hp->Prop),aJ b a->(if q y=true then L (.int y) (⇑(.int y)::f) a else M (⇑(.int y)::f) a)->k (.int y) (u::f) a fun h x=>tt h x λA n=>if A=true then l h n λB b=>L B h b else M h n)
  (C:∀ a,a e=⇑(.lst ((d.filter q).map V.int))->aJ b a->Q ↥e a):qH (M4 K z) e k tt l (none::f) (aL b e (.lst [])) Q:=by
 refine gK (K:=K) (h:=z) (a:=d.map V.int) (λi j a=>∃ u:Option V,j=u::f/\a e=⇑(.lst (((d.take i).filter q).map V.int))/\aJ b a) ⟨none,1,af,ao m _⟩ (by rintro i j a _ ⟨_,_,_,c⟩;exact bL.of (c _ _ t)) ?_ ?_
 ·rintro i w j a o ⟨u,rfl,g,c⟩;rw[fK]at o;let⟨y,s,rfl⟩:=Option.map_eq_some_iff.mp o;let p:=take_snoc s;let o:=List.length_filter_le q (d.take i);rw[gm]at o;refine v u y a _ _ c ?_
  cases r:q y with
  | true =>
   refine iF ⟨_,g,(by rw[cC];exact aN ∅),Y,?_,bP m c (aG e _ _)⟩;rw[af,p,List.filter_append,List.filter_cons_of_pos r,gP];rfl
  | false =>
   refine gp ⟨Y,?_,c⟩;rw[p,List.filter_append,List.filter_cons_of_neg (by rw[r];exact lT),List.filter_nil,gV];exact g
 ·rintro j a ⟨u,rfl,g,c⟩;rw[cC,gU]at g;exact C a g c
def xG(b a:List Nat)(p:Int):Bool:=decide ((b.drop p.toNat).take ↑a=a)
def Xu(a b:List Nat):Wp:=if b=[] then [] else (run 0 ↑a).filter (xG a b)
def Xv{a b:List Nat}{p:Int}(c:0<=p)(d:p<(↑a:Nat)):_gX.xy a (⇑p) (⇑(p+(↑b:Nat)))=(a.drop p.toNat).take ↑b:=by
 unfold _gX.xy;rw[show _HT.gH ↑a 0 (⇑p)=p.toNat by show (if p<0 then _ else min p.toNat ↑a)=_;rw[if_neg ∅];lia,show _HT.gH ↑a ↑a (⇑(p+(↑b:Nat)))=min (p.toNat+↑b) ↑a by show (if p+(↑b:Nat)<0 then _ else min (p+(↑b:Nat)).toNat ↑a)=_;rw[if_neg ∅];lia];by_cases e:p.toNat+↑b<=↑a
 ·rw[show min (p.toNat+↑b) ↑a-p.toNat=↑b by lia]
 ·rw[pO (by rw[l9];lia),pO (by rw[l9];lia)]
class inductive J9(C CS CW CB:Addr)
 | mk (U:Y1) (x:Addr) (d:gZ) (i:iD) (e:gG) (j:Nat) (h:Row) (b:dB) (s:Int) (c:Y2) (f:List Nat) (_:vs=[↥x,.int s,.str (dY f)]) (_:nB C CS CW CB U H x d i e j h) (_:d.getLast?=⇑b) (_:↑d<=900) (_:↑b<=50) (_:qR ↑b s) (_:Seen b c) (_:↑(c s)<=200) (_:∀ a∈c s,0<=a/\a<(↑e:Nat)) (_:↑f<=1000) (_:∀ (r:Addr) (g:Hp),H r=none->g r=⇑(.lst ((Xu ((c s).map (kT e h 10)) f).map V.int))->aJ H g->Q ↥r g)
theorem vX:‹(6,81,["self","sheet","word"],(J9 fj cO dc d9))›:=λD=>by
 let⟨t,u⟩:=D.G.n;specialize fm ["self","sheet","word","text"] D.i3.F;let⟨U,x,j,l,m,v,n,w,s,e,b,rfl,o,y,z,B,C,F,ls,G,lc,k⟩:=h;let hu:=gR hr;let⟨S,SW,f,I,J,L,M,N,O,R,T,W,dw,sg,ow,pw,db,tb,X,g⟩:=id o;refine⟨_,#v[aX 3 (cV (pv 0) D.aR D.ip (uQ D) hr bR #[cV (pv 0) D.aR D.Sf (j8 D) hr bR #[1],Cv (v:=.str "\n") rfl u ⟨t,1⟩]),bO (aV eE (pv 2) bw (bh _)) #v[aM (bJ ah)] bg,aM (gS (N:=["place","word","text"]) (kG (c:=cB mC) (f:=["self","sheet","word","text"]) (d:=[none,some 2,some 3]) rfl rfl rfl nofun nofun rfl nofun rfl nofun) rfl (iA rfl D.T.iX #[bU ic rfl D.T.eV PySem.boot_len #[3]]) (λ_ _ _ _ _ _=>(bX 0)) (λ_ _ _ _ _ _=>xQ (aV eE (gD _gX.Oz (pv 2) (gj (pv 0)) (gj (bx cT (pv 0) (bU ic rfl D.T.eV PySem.boot_len #[1])))) (pv 1) (bh _))) (λ_ _ _ _ _ _=>(pv 0)))],?_⟩
 all_goals try dsimp only[aS,aH]
 refine⟨Y,x,f,Y,g.L.hx,1,Y,x,f,Y,g.L.hx,1,Y,S,x,f,I,J,L,M,N,O,R,T,W,j,X,l,w,s,1,g.L,y,B,z,C,⟨e,F,λf g ho p t=>?_⟩⟩;refine⟨U,x,f,j,l,m,v,n,cL (e s),10,by rw[show Str.ofString "\n"=⟨(List.toArray [10])⟩ by decide +kernel];rfl,o.same p,ho,kB _,by rw[eT];lia,by rw[eT];exact G,?_⟩;rw[eT];intro H2 s2;generalize f:(e s).map (kT m n 10)=a at k;let g:↑a=↑(e s):=by rw[← f,cC]
 let i:=p.trans s2
 let r:∀ q,H2 q=none->H q=none:=λq c=>by
  cases d:H q with
  | none=>rfl
  | some _=>rw[i _ _ d]at c;cases c
 refine⟨Y,1,Y,dM (λd=>?_) (λd=>?_)⟩
 ·let d:=C1 (b:=[]) (V.str.inj (of_decide_eq_true d));refine⟨iy,λq c=>k q _ (r q c) ?_ (i.trans (ao c _))⟩;rw[af,Xu,if_pos d];rfl
 ·refine⟨Y,dY a,1,(by rw[eZ];exact gn (aN ∅)),(↑a:Nat),by rw[eZ],by lia,by lia,λg f=>Xr (lo:=0) (d:=[⇑(.str (dY b)),⇑(.str (dY a))]) (q:=xG a b) ∅ f (λu y j L M e l m c=>?_) λj hA l=>?_⟩
  ·exists Y,Y,Y,Y,Y,dY b,1,(by rw[eZ];exact gn (aN ∅)),Z,Y,a,1,by lia,Y,1,Y;rw[eZ,Xv e ∅];by_cases e:(a.drop y.toNat).take ↑b=b
   ·rw[if_pos (show xG a b y=true from decide_eq_true e)]at c;rw[if_pos (decide_eq_true (by rw[e]))];exact⟨Y,c⟩
   ·rw[if_neg (by rw[show xG a b y=false from decide_eq_false e];exact lT)]at c;rw[if_neg λz=>e (C1 (V.str.inj (of_decide_eq_true z)))];exact c
  ·refine k g j (r _ f) ?_ (i.trans l);rw[Xu,if_neg λz=>d (decide_eq_true (by rw[z];rfl))];exact hA
def Pu{z:Str}{i:Int}{n:Nat}(b:↑z=n)(a:0<=i)(d:i<n):∃ c,om z.cps.toList i=⇑c/\c∈z.cps.toList:=by
 let e:i.toNat<↑z.cps.toList:=by
  have:↑z.cps.toList=↑z:=by show _=z.cps.size;simp
  lia
 exists z.cps.toList[i.toNat];let e:om z.cps.toList ((i.toNat:Nat):Int)=⇑z.cps.toList[i.toNat]:=cP (by simp);rw[Int.toNat_of_nonneg a]at e;exact⟨e,List.getElem_mem _⟩
class inductive Ti
 | mk (l d:Addr) (b:Bool) (_:vs=[↥l,.bl b]) (_:dm H l d) (_: ∀ (ch:Nat) (c:Hp),ch≠10->dm c l d->(∀ a,a≠l->c a=H a)->Q (qu ch) c)
class inductive Ka
 | mk (l c:Addr) (m:Nat) (_:vs=[↥l,.int (m:Nat)]) (_:dm H l c) (_:m<=1000) (_: ∀ (a:List Nat) (b:Hp),↑a=m->(∀ y∈a,y≠10)->dm b l c->cF l H b->Q (.str (dY a)) b)
theorem FO:‹(2,82,["_law_src_here","_law_few"],Ti)›:=λD=>by
 specialize fm ["_law_src_here","_law_few","_law_some"] D.i4.F;let⟨l,j,b,rfl,S,k⟩:=h;refine⟨_,#v[aX 2 bw,bO (jd (pv 1) (λ_=>rfl)) #v[aM (aP G7 bw (aC D.qL (fV D) hr #[0,az]))] bg,aM (aP G7 (pv 2) (aC D.qL (fV D) hr #[0,az]))],?_⟩
 all_goals try dsimp only[aS,aH]
 refine⟨Y,b,1,dM (λ_=>?_) (λ_=>?_)⟩
 ·refine⟨Y,l,j,4,1,S,by decide,by decide,λv b c d e f=>?_⟩;let⟨a,g,i⟩:=Pu (z:=Str.ofString "a# b") (n:=4) nofun c d;exact⟨E,a,V,nofun,g,k a b ((by decide +kernel:∀ y∈(Str.ofString "a# b").cps.toList,y≠10) a i) e f⟩
 ·refine⟨Y,Y,l,j,94,1,S,by decide,by decide,λv b c d e f=>?_⟩;let⟨a,g,i⟩:=Pu (z:=Str.ofString " !\"#$&'()*+,-./0123456789:;<=>?@ABCDEFGHIJKLMNOPQRSTUVWXYZ[\\]^_`abcdefghijklmnopqrstuvwxyz{|}~") (n:=94) nofun c d;exact⟨E,a,V,nofun,g,k a b ((by decide +kernel:∀ y∈(Str.ofString " !\"#$&'()*+,-./0123456789:;<=>?@ABCDEFGHIJKLMNOPQRSTUVWXYZ[\\]^_`abcdefghijklmnopqrstuvwxyz{|}~").cps.toList,y≠10) a i) e f⟩
theorem xg:‹(3,83,["_law_src_here","_law_many"],Ka)›:=λD=>by
 specialize fm ["_law_src_here","_law_many","_law_few"] D.WD.F;let⟨l,g,m,rfl,S,t,x⟩:=h;refine⟨_,#v[aX 2 (jw eE (aC D.qL (fV D) hr #[0,az]) az (bh _)),aM (dX PySem.F.plainAttrs_str PySem.F.slot_str_join PySem.F.type_str_join zu bw #[gS (N:=["_law_k","_law_src_here","_law_few"]) (kG (c:=cB sD) (f:=["_law_src_here","_law_many","_law_few"]) (d:=[none,some 0,some 2]) rfl rfl rfl nofun nofun rfl nofun rfl nofun) rfl (iA rfl D.T.iX #[1]) (λ_ _ _ _ _ _=>(bX 0)) (λ_ _ _ _ _ _=>gQ) (λ_ _ _ _ _ _=>(aC D.i4 (FO D) hr #[1,2]))])],?_⟩
 all_goals try dsimp only[aS,aH]
 refine⟨Y,l,g,2,1,S,by decide,by decide,λB t _ _ i C=>⟨1,?_⟩⟩;let r:cF l H t:=λd s e m=>(C d m).trans e;refine⟨1,Y,(m:Nat),1,by lia,by lia,λb f=>qo (lo:=0) (k:=((m:Nat):Int).toNat) (λt j c=>∃ (u:Option V) (a:List Nat),j=[u,⇑↥l,⇑(.bl (decide (V.int B=V.int 0)))]/\c b=⇑(.lst (a.map qu))/\↑a=t/\(∀ y∈a,y≠10)/\dm c l g/\cF l H c) ⟨none,[],1,af,1,(λ_ z=>nomatch z),i.same (ao f _),λd s e m=>ao f _ _ _ (r _ _ e m)⟩ ?_ ?_⟩
 ·rintro t j c I ⟨u,a,rfl,k,v,n,o,p⟩;let q:b≠l:=(i.ne f).1.symm;let F:b≠g:=(i.ne f).2.symm;refine⟨Y,Y,l,g,Y,o,λg l i G w=>⟨_,by rw[w b q];exact k,(by rw[cC];exact aN ∅),_,a++[g],1,?_,?_,(λy g=>(List.mem_append.mp g).elim (n y) λz=>by rw[List.mem_singleton.mp z];exact i),?_,?_⟩⟩
  ·rw[af,gP];rfl
  ·rw[dh,v];rfl
  ·exact G.keep (aG b _ _) q.symm F.symm
  ·intro d s e m;by_cases z:d=b
   ·rw[z]at e;have:=iS r q f;rw[this]at e;cases e
   rw[aK z,w d m];exact p _ _ e m
 ·rintro j c ⟨u,a,rfl,k,v,n,o,p⟩;let d:↑a=m:=by lia
  exact⟨b,a,V,k,by lia,x a c d n o p⟩
def Dt{a b:Type}{c:a->b->Prop}{d:List a}{e:List b}{x:a}{y:b}(h:Paired c d e)(f:c x y):Paired c (d++[x]) (e++[y]):=by
 induction h with
 | nil=>exact .cons f .nil
 | cons r _ g=>exact .cons r g
def AW{b c:Type}{a:b->c->Prop}{d e:List b}{f g:List c}(h:Paired a d f)(t:Paired a e g):Paired a (d++e) (f++g):=by
 induction h with
 | nil=>exact t
 | cons i _ j=>exact .cons i j
def Kc(H:Hp)(a:Addr)(q:Int × Nat):Prop:=H a=⇑(.tup [.int q.1,qu q.2])
inductive zV(H:Hp)(v:Addr)(aF:gG):Prop
 | mk (a:WF) (_:H v=⇑(.lst (a.map V.ref))) (_:Paired (Kc H) a aF)
abbrev kI:fR:=.inr (Str.ofString "ink")
abbrev kR:fR:=.inr (Str.ofString "rows")
abbrev kP:fR:=.inr (Str.ofString "past")
abbrev Mm:fR:=.inr (Str.ofString "veil")
abbrev kX(a rw b c:Addr):List (fR × V):=[(kI,↥a),(kR,↥rw),(kP,↥b),(Mm,↥c)]
def UT(W:Y1)(a c:Addr)(H:Hp)(v:V)(d:Wp):Prop:=∃ b,v=↥b/\W b/\b≠a/\b≠c/\H b=⇑(.lst (d.map V.int))
def Kd(W:Y1)(b c:Addr)(H:Hp)(a:Addr)(e:dB):Prop:=W a/\a≠b/\a≠c/\∃ d,H a=⇑(.lst d)/\cG (UT W b c H) d e
structure xH(ke:Nat)(aO:Row)(W:Y1)(H:Hp)(w ik rw ps vl:Addr)(aF:gG)(pe:gZ)(rows:dB):Prop where
 ww:W w
 wi:W ik
 wp:W ps
 wv:W vl
 al:∀ a,W a->∃ ob,H a=⇑ob
 hw:H w=⇑(.dK (kX ik rw ps vl))
 hi:zV H ik aF
 hr:Kd W ik ps H rw rows
 hp:∃ vs,H ps=⇑(.lst vs)/\cG (λv rs=>∃ a,v=↥a/\Kd W ik ps H a rs) vs pe
 ne:ik≠ps
 lst:pe.getLast?=⇑rows
 hv:∃ vn:List Int,H vl=⇑(.lst (vn.map V.int))/\↑vn+ke<=100*↑pe/\∀ y,y∈vn↔In aO y
 nv:vl≠ik/\vl≠ps
def Wo(a:Nat)(b:Row)(W:Y1)(H:Hp)(w:Addr)(c:gG)(d:gZ)(e:dB):Prop:=∃ f rw g h,xH a b W H w f rw g h c d e
theorem UT.fr{W b:Y1}{H c:Hp}{v:V}{d:Wp}(s:∀ a,W a->b a)(k:∀ a e,H a=⇑(.lst e)->W a->a≠f->a≠g->c a=⇑(.lst e)):UT W f g H v d->UT b f g c v d:=λ⟨j,l,w,h,i,m⟩=>⟨j,l,s _ w,h,i,k _ _ m w h i⟩
theorem Kd.fr{W b:Y1}{H c:Hp}{a:Addr}{d:dB}(s:∀ a,W a->b a)(k:∀ a e,H a=⇑(.lst e)->W a->a≠f->a≠g->c a=⇑(.lst e)):Kd W f g H a d->Kd b f g c a d:=λ⟨w,h,i,j,l,m⟩=>⟨s _ w,h,i,j,k _ _ l w h i,m.mono λ_ _=>UT.fr s k⟩
def zV.two{H b:Hp}{v:Addr}{d:gG}(h:zV H v d)(k:∀ a,H v=⇑(.lst a)->b v=⇑(.lst a))(t:∀ c a,H c=⇑(.tup a)->b c=⇑(.tup a)):zV b v d:=by
 let⟨e,f,g⟩:=h;exact⟨e,k _ f,Paired.Cs g λc q e=>t _ _ e⟩
def xH.fr{W:Y1}{H d:Hp}{w rw:Addr}{f:gG}{g:gZ}{h:dB}(i:xH 100 aO W H w j rw l m f g h)(k:∀ a c,H a=⇑c->W a->d a=⇑c)(t:∀ a b,H a=⇑(.tup b)->d a=⇑(.tup b)):xH 100 aO W d w j rw l m f g h:=by
 let⟨ww,wi,wp,wv,al,hw,hi,hr,⟨n,hp,o⟩,ne,lst,hv,nv⟩:=i;refine⟨ww,wi,wp,wv,λa z=>?_,k _ _ hw ww,hi.two (λb e=>k _ _ e wi) t,hr.fr (λ_ z=>z) (λa b e z _ _=>k _ _ e z),⟨n,k _ _ hp wp,o.mono λv n ⟨a,e,z⟩=>⟨a,e,z.fr (λ_ y=>y) (λa b e y _ _=>k _ _ e y)⟩⟩,ne,lst,hv.imp λ_ z=>⟨k _ _ z.1 wv,z.2⟩,nv⟩;let⟨c,e⟩:=al a z;exact⟨c,k _ _ e z⟩
def Wo.fr{W:Y1}{H b:Hp}{w:Addr}{c:gG}{d:gZ}{e:dB}(h:Wo 100 i W H w c d e)(k:∀ a f,H a=⇑f->W a->b a=⇑f)(t:∀ a g,H a=⇑(.tup g)->b a=⇑(.tup g)):Wo 100 i W b w c d e:=by
 let⟨j,rw,l,m,z⟩:=h;exact⟨j,rw,l,m,z.fr k t⟩
theorem Wo.same{W:Y1}{H a:Hp}{w:Addr}{b:gG}{c:gZ}{d:dB}(h:Wo 100 g W H w b c d)(s:aJ H a):Wo 100 g W a w b c d:=h.fr (λf i e _=>s f i e) λf f e=>s _ _ e
def Ke:Sp:=λa H Q _=>a=[]/\∀ (W:Y1) (w:Addr) (a:Hp),Wo 100 [] W a w [] [[]] []->(∀ b,W b->H b=none)->aJ H a->Q ↥w a
theorem px{a:Cx}{b c d e:Str}{n o p q:Nat}{r t u v x:Pos}{f g h i:Expr}{j k l m:TE}(y:PE a f j)(z:PE a g k)(A:PE a h l)(B:PE a i m) :
  PE a (.Dict [⇑(.Constant (.str b) n r),⇑(.Constant (.str c) o t),⇑(.Constant (.str d) p u),⇑(.Constant (.str e) q v)] [f,g,h,i] x) (N5 [(tC (.str b),j),(tC (.str c),k),(tC (.str d),l),(tC (.str e),m)]) :=
 RA (uo bw y (uo bw z (uo bw A (uo bw B Rz)))) rfl rfl (by simp) (by show 4<=15;decide)
abbrev py:TE:=N5 [(tC (.str "ink"),KJ yk),(tC (.str "rows"),KJ yk),(tC (.str "past"),KJ (Nb (KJ yk) yk)),(tC (.str "veil"),KJ yk)]
theorem Px:∃ (e:Expr) (p:Pos),jz qm=[.Return (⇑e) p]/\∀ a:Cx,PE a e py :=
 ⟨E,1,λa=>@px a _ _ _ _ _ _ _ _ _ _ _ _ _ _ _ _ _ _ _ _ _ (bJ ah) (bJ ah) (bJ #[bJ ah]) (bJ ah)⟩
theorem Du:‹(1,84,[],Ke)›:=λD=>by
 refine fm [] D.Sg.F λdF A zn s H vs Q E hr _ h=>?_;let⟨rfl,W⟩:=h;let⟨e,ab,X,pw⟩:=Px;rw[X];exists _,ay (aM (pw _));intro bu w;refine⟨iy,λb x=>⟨iy,λrw q=>⟨iy,λz l=>⟨kH,λc f=>⟨iy,λg i=>?_⟩⟩⟩⟩⟩;have s0:=ao w (.dK []);have I:(aL H bu (.dK [])) bu=⇑(.dK []):=af;generalize aL H bu (.dK [])=v at s0 I x q l f i;have m:=ao x (.lst []);have n:(aL v b (.lst [])) b=⇑(.lst []):=af;generalize aL v b (.lst [])=y at m n q l f i;have j:=ao q (.lst []);have B:(aL y rw (.lst [])) rw=⇑(.lst []):=af;generalize aL y rw (.lst [])=J at j B l f i;have k:=ao l (.lst []);have C:(aL J z (.lst [])) z=⇑(.lst []):=af;generalize aL J z (.lst [])=L at k C f i;have o:=ao f (.lst [↥z]);have F:(aL L c (.lst [↥z])) c=⇑(.lst [↥z]):=af;generalize aL L c (.lst [↥z])=M at o F i;have r:=ao i (.lst []);have G:(aL M g (.lst [])) g=⇑(.lst []):=af;generalize aL M g (.lst [])=t at r G;have J:aJ y t:=j.trans (k.trans (o.trans r));have N:aJ v t:=m.trans J;have O:=N _ _ I;have R:=J _ _ n;have S:=(k.trans (o.trans r)) _ _ B;have T:=(o.trans r) _ _ C;have U:=r _ _ F;have nl:∀ {a:Addr} {p:List V},t a=⇑(.lst p)->a≠bu:=λ{a p} e r=>by rw[r,O]at e;cases e
 let n1:rw≠b:=(aA n q).symm;let n2:rw≠c:=aA (k _ _ B) f;let n3:z≠b:=(aA (j _ _ n) l).symm;let n4:z≠c:=aA C f;let n5:b≠c:=aA ((j.trans k) _ _ n) f;refine⟨O,kX b rw c g,1,(by show 4<=15;decide),?_⟩;rw[show vq [] (kX b rw c g)=kX b rw c g by kernel_rfl];let d:∀ {a:Addr} {p:List V},t a=⇑(.lst p)->(aL t bu (.dK (kX b rw c g))) a=⇑(.lst p):=λ{a p} e=>by rw[aK (nl e)];exact e
 let u:∀ a,v a=none->H a=none:=λa e=>aU s0 e;refine W (λa=>a=bu\/a=b\/a=rw\/a=z\/a=c\/a=g) bu _ ⟨b,rw,c,g,.inl rfl,.inr (.inl rfl),.inr (.inr (.inr (.inr (.inl rfl)))),.inr (.inr (.inr (.inr (.inr rfl)))),λa e=>?_,af,⟨[],d R,.nil⟩,⟨.inr (.inr (.inl rfl)),n1,n2,[],d S,.nil⟩,⟨[↥z],d U,.cons ⟨z,1,.inr (.inr (.inr (.inl rfl))),n3,n4,[],d T,.nil⟩ .nil⟩,n5,1,⟨[],d G,(by decide),λy=>⟨λz=>(by cases z),λ⟨_,z,_⟩=>(by cases z)⟩⟩,(aA ((j.trans (k.trans o)) _ _ n) i).symm,(aA F i).symm⟩ (λa e=>?_) (bP w (s0.trans N) (aG bu _ _))
 ·rcases e with rfl|rfl|rfl|rfl|rfl|rfl
  ·exact⟨_,af⟩
  ·exact⟨_,d R⟩
  ·exact⟨_,d S⟩
  ·exact⟨_,d T⟩
  ·exact⟨_,d U⟩
  ·exact⟨_,d G⟩
 ·rcases e with rfl|rfl|rfl|rfl|rfl|rfl
  ·exact w
  ·exact u _ x
  ·exact u _ (aU m q)
  ·exact u _ (aU m (aU j l))
  ·exact u _ (aU m (aU j (aU k f)))
  ·exact u _ (aU m (aU j (aU k (aU o i))))
theorem xH.kp{j n:Nat}{aO:Row}{W:Y1}{H a:Hp}{w rw r:Addr}{g:gG}{i:gZ}{m e:dB}(h:xH j aO W H w b rw c f g i m)(x:n<=j+100)(o:∀ d,W d->∃ p,a d=⇑p)(q:a w=⇑(.dK (kX b r c f)))(hi:zV a b g)(hr:Kd W b c a r e)(hp:∃ k,a c=⇑(.lst k)/\cG (λv t=>∃ d,v=↥d/\Kd W b c a d t) k (i++[e]))(u:∀ l,H f=⇑(.lst l)->a f=⇑(.lst l)):xH n aO W a w b r c f g (i++[e]) e:=⟨h.ww,h.wi,h.wp,h.wv,o,q,hi,hr,hp,h.ne,lN,h.hv.imp λ_ z=>⟨u _ z.1,by rw[dh,nC];have:=z.2.1;lia,z.2.2⟩,h.nv⟩
class inductive Xw
 | mk (W:Y1) (w r:Addr) (e:gG) (d:gZ) (j b:dB) (_:vs=[↥w,↥r]) (_:Wo ke aO W H w e d j) (_:↑d<=1000) (_:(∀ f g,(∃ rw k,H w=⇑(.dK (kX f rw g k)))->Kd W f g H r b)) (_: ∀ (c:Hp),Wo 100 aO W c w e (d++[b]) b->(∀ a h,H a=⇑h->¬ W a->c a=⇑h)->(∀ a i,H a=⇑(.tup i)->c a=⇑(.tup i))->Wo (ke+100) aO W c w e (d++[b]) b->Q .gc c)
theorem m8:‹(1,85,["_law_world_here","_law_rows"],Xw)›:=λD=>by
 specialize fm ["_law_world_here","_law_rows"] D.OE.F;let⟨W,bu,r,aF,w,C,F,rfl,⟨c,rw,b,d,h⟩,G,x,k⟩:=h;let p:=gR hr;exists _,#v[oA p (pv 0) bw (pv 1) rfl,aT (dX n8 jt ju bT (gu p (pv 0) bw) #[1])]
 all_goals try dsimp only[aS,aH]
 let y:=x c b ⟨rw,d,h.hw⟩;refine⟨Y,Y,bu,Y,zf.k (k:=kR) h.hw (by show 4<sizeLine;decide),?_⟩;rw[show fk (kX c rw b d) kR ↥r=kX c r b d by kernel_rfl];let⟨g,l,t⟩:=h.hp;let i:=aG bu H (.dK (kX c r b d));let m:(aL H bu (.dK (kX c r b d))) bu=⇑(.dK (kX c r b d)):=af;let o:∀ {a:Addr} {p:HO},H a=⇑p->(∀ e,p≠.dK e)->a≠bu:=λ{a p} e n q=>by rw[q,h.hw]at e;cases e;exact n _ rfl
 generalize aL H bu (.dK (kX c r b d))=j at i m;let u:=i _ _ l (o l (λ_ z=>by cases z));let z:=gW.k (k:=kP) m;rw[show cI (kX c r b d) kP=⇑↥b by kernel_rfl]at z;let p:g.length=↑w:=t.len;refine⟨Y,bu,Y,z,.inl ⟨1,_,bL.of u⟩,Y,b,Z,u,aN ∅,?_⟩;let B:bu≠b:=(o l (λ_ z=>by cases z)).symm
 let s:∀ a f,H a=⇑(.lst f)->a≠b->(aL j b (.lst (g++[↥r]))) a=⇑(.lst f):=λa f e n=>by
  rw[aK n];exact i _ _ e (o e (λ_ z=>by cases z))
 let v:∀ a f,H a=⇑(.tup f)->(aL j b (.lst (g++[↥r]))) a=⇑(.tup f):=λa f e=>by
  rw[aK (cS e l)];exact i _ _ e (o e (λ_ z=>by cases z))
 let p:∀ {a:Addr} {l:dB},Kd W c b H a l->Kd W c b (aL j b (.lst (g++[↥r]))) a l:=λ{a l} q=>q.fr (λ_ o=>o) λa f e _ _ n=>s a f e n;have u:=p y
 let x:∀ a,W a->∃ o,(aL j b (.lst (g++[↥r]))) a=⇑o:=λa y=>by
  by_cases w:a=b
  ·rw[w];exact⟨_,af⟩
  rw[aK w];by_cases w:a=bu
  ·rw[w];exact⟨_,m⟩
  ·let⟨o,e⟩:=h.al a y;exact⟨o,i _ _ e w⟩
 let w:(aL j b (.lst (g++[↥r]))) bu=⇑(.dK (kX c r b d)):=by
  rw[aK B];exact m
 let kp:=λ(n:Nat) g=>h.kp (n:=n) g x w (h.hi.two (λf e=>s _ _ e h.ne) v) u ⟨_,af,(t.mono λg l ⟨a,e,q⟩=>⟨a,e,p q⟩).app (.cons ⟨r,1,u⟩ .nil)⟩ λf e=>s _ _ e h.nv.2;refine k _ ⟨c,r,b,d,kp 100 (Nat.le_add_left _ _)⟩ (λa o e n=>?_) v ⟨c,r,b,d,kp _ (fH _)⟩
 ·rw[aK (λq=>n (by rw[q];exact h.wp))];exact i _ _ e (λq=>n (by rw[q];exact h.ww))
def nB.al{U:Y1}{H:Hp}{x:Addr}{b:gZ}{c:iD}{d:gG}{e:Nat}{f:Row}(h:nB C j k l U H x b c d e f){a:Addr}(z:U a):∃ g,H a=⇑g:=by
 let⟨S,m,n,o,p,q,r,s,t,v,w,y,A,D,F,G,I,J,M,L,W,B,R,N,O,T,X,u⟩:=h;let⟨m,i,_⟩:=R;rcases (u a).mp z with y|y|y|y|y|y
 ·exact L.W.al a y
 ·exact W.al a y
 ·rw[y];exact⟨_,L.hb⟩
 ·rw[y];exact⟨_,L.hx⟩
 ·rw[y];exact⟨_,B⟩
 ·rw[y];exact⟨_,i⟩
def Wo.al{W:Y1}{H:Hp}{w:Addr}{b:gG}{c:gZ}{d:dB}(h:Wo 100 f W H w b c d){a:Addr}(z:W a):∃ e,H a=⇑e:=by
 let⟨g,rw,i,j,y⟩:=h;exact y.al a z
structure pA(C CS CW CB:Addr)(H:Hp)(l c w x:Addr)(U W:Y1)(pe:gZ)(rows:dB)(pq:gZ)(rq:dB)(aB:iD)(aF:gG)(nW:Nat)(aO:Row):Prop where
 src:dm H l c
 Kg:nB C CS CW CB U H x pe aB aF nW aO
 lst:pe.getLast?=⇑rows
 wo:Wo 100 aO W H w aF pq rq
 du:∀ a,U a->¬ W a/\a≠l/\a≠c
 dw:∀ a,W a->a≠l/\a≠c
def Kh(l:Addr)(U W d e:Y1)(H b:Hp):Prop:=(∀ a,d a\/e a->U a\/W a\/H a=none)/\(∀ a c,H a=⇑c->a≠l->¬ U a->¬ W a->b a=⇑c)/\∀ a c,H a=⇑(.tup c)->b a=⇑(.tup c)
def Kh.trans{l:Addr}{U W c d j k:Y1}{H g m:Hp}(f:Kh l U W c d H g)(h:∃ o,g l=⇑o)(i:Kh l c d j k g m):Kh l U W j k H m:=by
 let q:∀ a,c a\/d a\/g a=none->U a\/W a\/H a=none:=by
  intro a z;rcases z with z|z|z
  ·exact f.1 a (.inl z)
  ·exact f.1 a (.inr z)
  by_cases u:U a
  ·exact .inl u
  by_cases v:W a
  ·exact .inr (.inl v)
  refine .inr (.inr ?_)
  cases e:H a with
  | none=>rfl
  | some b =>
   exfalso;by_cases n:a=l
   ·let⟨o,h⟩:=h;rw[n,h]at z;cases z
   rw[f.2.1 _ _ e n u v]at z;cases z
 let p:∀ a b,H a=⇑b->¬ U a->¬ W a->¬ c a/\¬ d a:=by
  intro a b e u v;refine⟨λz=>?_,λz=>?_⟩
  ·rcases f.1 a (.inl z) with y|y|y
   ·exact u y
   ·exact v y
   ·rw[y]at e;cases e
  ·rcases f.1 a (.inr z) with y|y|y
   ·exact u y
   ·exact v y
   ·rw[y]at e;cases e
 exact⟨λa z=>q a (i.1 a z),λa b e n u v=>i.2.1 _ _ (f.2.1 _ _ e n u v) n (p a b e u v).1 (p a b e u v).2,λa a e=>i.2.2 _ _ (f.2.2 _ _ e)⟩
def pA.mv{H b:Hp}{l c w x:Addr}{U W:Y1}{f:gZ}{g:dB}{i:gZ}{j:dB}{m:iD}{n:gG}{o:Nat}{p:Row}(h:pA C q r u H l c w x U W f g i j m n o p)(k:cF l H b)(s:dm b l c):pA C q r u b l c w x U W f g i j m n o p:=by
 let⟨a,v⟩:=h.src.lst;let t:∀ a d,H a=⇑(.tup d)->b a=⇑(.tup d):=λa d e=>k _ _ e (cS e v);exact⟨s,h.Kg.fr (λa d e z=>k _ _ e (h.du a z).2.1) t,h.lst,h.wo.fr (λa d e z=>k _ _ e (h.dw a z).1) t,h.du,h.dw⟩
theorem pA.same{H a:Hp}{l c w x:Addr}{U W:Y1}{b:gZ}{d:dB}{e:gZ}{f:dB}{g:iD}{h:gG}{i:Nat}{j:Row}(k:pA C m n o H l c w x U W b d e f g h i j)(s:aJ H a):pA C m n o a l c w x U W b d e f g h i j:=k.mv (λp q r _=>s p q r) (k.src.same s)
def zX{c:Type}{a:List c}{v:Int}(d:0<=v)(e:v<↑a):∃ x∈a,om a v=⇑x:=by
 obtain⟨j,rfl⟩:∃ j:Nat,v=j:=⟨v.toNat,by lia⟩;let b:j<↑a:=by lia
 exact⟨a[j],List.getElem_mem b,cP (mS b)⟩
def pA.UU{W b:Y1}{H:Hp}{w rw:Addr}{c:gG}{d:gZ}{f:dB}(h:xH 100 g W H w i rw j k c d f)(s:∀ a,W a->b a)(l:∀ a,b a->∃ m,H a=⇑m):xH 100 g b H w i rw j k c d f:=by
 let⟨ww,wi,wp,wv,_,hw,hi,hr,⟨n,o,p⟩,ne,lst,hv,nv⟩:=h;exact⟨s _ ww,s _ wi,s _ wp,s _ wv,l,hw,hi,hr.fr s (λa q e _ _ _=>e),⟨n,o,p.mono λv n ⟨a,e,z⟩=>⟨a,e,z.fr s (λa q e _ _ _=>e)⟩⟩,ne,lst,hv,nv⟩
def dm.kh{U d:Y1}{H a:Hp}{l c:Addr}(e:dm H l c)(b:uY U d H a)(f:¬ U l)(g:¬ U c):dm a l c:=by
 let⟨n,h,i,j,r,k,m,o⟩:=e;exact⟨n,h,i,j,r,b.2.1 _ _ k f,b.2.1 _ _ m g,o⟩
def pA.pz{H c:Hp}{l f w x:Addr}{U d W:Y1}{u g:gZ}{v k:dB}{m:gZ}{n:dB}{A o:iD}{h:gG}{B p:Nat}{i:Row}(St:pA C q r t H l f w x U W u v m n A h B i)(D:nB C q r t d c x g o h p i)(G:g.getLast?=⇑k)(b:uY U d H c):pA C q r t c l f w x d W g k m n o h p i/\Kh l U W d W H c:=by
 refine⟨⟨St.src.kh b (λz=>(St.du l z).2.1 rfl) (λz=>(St.du f z).2.2 rfl),D,G,St.wo.fr (λa j e z=>b.2.1 _ _ e (λy=>(St.du a y).1 z)) b.2.2,λa z=>?_,St.dw⟩,λa z=>z.elim (λz=>(b.1 a z).elim .inl λy=>.inr (.inr y)) (λz=>.inr (.inl z)),λa j e _ s _=>b.2.1 a j e s,b.2.2⟩;rcases b.1 a z with y|y
 ·exact St.du a y
 ·let a:=St.src.ne y;refine⟨λz=>?_,a.1.symm,a.2.symm⟩;let⟨j,e⟩:=St.wo.al z;rw[y]at e;cases e
def pA.kept{H c:Hp}{l d w x:Addr}{U W b:Y1}{j:gZ}{k:dB}{t m:gZ}{u n:dB}{o:iD}{e:gG}{p:Nat}{f:Row}(St:pA C v y A H l d w x U W j k t u o e p f)(wo:Wo 100 f b c w e m n)(q:∀ a,U a->¬ b a)(g:∀ a,b a->a≠l/\a≠d)(h:∀ a i,H a=⇑i->¬ b a->c a=⇑i)(B:∀ a r,H a=⇑(.tup r)->c a=⇑(.tup r)):pA C v y A c l d w x U b j k m n o e p f:=by
 refine⟨?_,St.Kg.fr (λa i s z=>h _ _ s (q a z)) B,St.lst,wo,λa z=>⟨q a z,(St.du a z).2⟩,g⟩;let⟨s,D,F,G,I,J,L,M⟩:=St.src;exact⟨s,D,F,G,I,h _ _ J (λz=>(g l z).1 rfl),h _ _ L (λz=>(g d z).2 rfl),M⟩
def pA.new{H:Hp}{l c w x a:Addr}{U W:Y1}{b:gZ}{d:dB}{f:gZ}{g:dB}{i:iD}{j:gG}{k:Nat}{m:Row}(St:pA C p q r H l c w x U W b d f g i j k m)(h:H a=none):¬ U a/\¬ W a/\a≠l/\a≠c:=by
 let n:=St.src.ne h;refine⟨λz=>?_,λz=>?_,n.1.symm,n.2.symm⟩
 ·let⟨o,e⟩:=St.Kg.al z;rw[h]at e;cases e
 ·let⟨o,e⟩:=St.wo.al z;rw[h]at e;cases e
def own(a:dB)(x:Int):Wp:=(a[x.toNat]?).getD []
def FP{a:dB}{s:Nat}(b:Wp)(h:s<↑a):i6 a s b=a.set s b:=by
 unfold i6;rw[List.set_eq_take_append_cons_drop,if_pos h,ko];rfl
theorem FQ{k:Nat}:∀ {a:Row},(∀ p∈a,p.2<=p.1+(k:Nat))->↑(bC a)<=k*↑a
 | [],_=>Nat.zero_le _
 | p::r,h=>by
  let b:=FQ (a:=r) λq b=>h q (kY _ b);have b:=h p (rY ..);have e:bC (p::r)=gx p++bC r:=by unfold bC;rw[jb]
  rw[e,dh,fE,Nat.mul_add,Nat.mul_one];have:↑(gx p)<=k:=by unfold gx;rw[dG];lia
  lia
def Pz{n:Nat}{a:Row}(h:∀ p∈a,0<=p.1/\p.1<p.2/\p.2<=(n:Nat)){e:Int}(b:e∈bC a):0<=e/\e<(n:Nat):=by
 unfold bC at b;let⟨p,c,d⟩:=List.mem_flatMap.mp b;let f:=h p c;let m:=ux.mp d;lia
class inductive Xx
 | mk (r e:Addr) (s:Nat) (a:List V) (_:vs=[↥r,.int (s:Nat),↥e]) (_:H r=⇑(.lst a)) (_:s<↑a) (_:↑a<=1000) (_:∀ (q:Addr) (b:Hp),b q=⇑(.lst (a.set s ↥e))->aJ H b->H q=none->Q ↥q b)
def Tj{n:Nat}{i:Nat}(a:i<n):Jw n ((i:Nat):Int)=⇑i:=by
 unfold Jw;rw[if_pos ∅,Int.toNat_natCast,if_pos ∅]
theorem xh:‹(1,86,["_law_rows","_law_sheet","_law_entries"],Xx)›:=λD=>by
 specialize fm ["_law_rows","_law_sheet","_law_entries","_law_found_here"] D.WE.F;let⟨r,e,s,c,rfl,a,b,d,k⟩:=h;exists _,#v[aX 3 (fZ ie rfl D.T.jI tM #[0]),ng (pv 2) (pW (pv 3) (pv 1) ku),aM (pv 3)]
 all_goals try dsimp only[aS,aH]
 refine⟨Y,r,Y,.inl (bL.of a),λq a=>?_⟩;refine⟨Y,Y,Y,q,E,s,V,af,Tj b,Y,k q _ af (bP a (ao a _) (aG q _ _)) a⟩
def Wo.swap{W:Y1}{H:Hp}{w rw q e:Addr}{i:gG}{j:gZ}{f:dB}{m:List V}{s:Nat}{k:Wp}(b:xH 100 o W H w c rw d p i j f)(y:H rw=⇑(.lst m))(r:H q=⇑(.lst (m.set s ↥e)))(t:H e=⇑(.lst (k.map V.int)))(u:¬ W q)(v:¬ W e):xH 100 o (λa=>W a\/a=e\/a=q) H w c rw d p i j f/\Kd (λa=>W a\/a=e\/a=q) c d H q (f.set s k):=by
 let l:xH 100 o (λa=>W a\/a=e\/a=q) H w c rw d p i j f:=pA.UU b (λa z=>.inl z) (by
  rintro a (z|z|z)
  ·exact b.al a z
  ·rw[z];exact⟨_,t⟩
  ·rw[z];exact⟨_,r⟩)
 let⟨_,_,_,g,x,al⟩:=id l.hr;rw[y]at x;cases x;let h:∀ {a x:Addr},W a->¬ W x->x≠a:=λx A z=>A (by rw[z];exact x);exists l,.inr (.inr rfl),h b.wi u,h b.wp u,_,r
 let B:∀ {g:List V} {l:dB} (s:Nat),cG (UT (λa=>W a\/a=e\/a=q) c d H) g l->cG (UT (λa=>W a\/a=e\/a=q) c d H) (g.set s ↥e) (l.set s k):=by
  intro g l s z
  induction z generalizing s with
  | nil=>exact .nil
  | cons C D F =>
   cases s with
   | zero=>exact .cons ⟨e,1,.inr (.inl rfl),h b.wi v,h b.wp v,t⟩ D
   | succ n=>exact .cons C (F n)
 exact B s al
theorem Dv:‹(1,87,["_law_row"],(Rc 1000000))›:=λD=>by
 refine fm ["_law_row","_law_numbers","_law_start","_law_stop"] D.i5.F λdF A zn s H vs Q E hr _ h=>?_;let⟨r,row,rfl,⟨j,e,c⟩,l,m,p,k⟩:=h;exists _,#v[aX 1 (bJ ah),eX PassesOwn.never rfl (cM (pv 0)) (lg (n:=2) rfl (bS (bX 2) (bS (bX 3) gB))) #v[aT (dX n8 PySem.F.slot_list_extend PySem.F.type_list_extend jY (pv 1) #[fZ (rQ rfl) rfl D.T.jI tM #[fZ Eu rfl D.T.iX PyProof.Rows.boot_range #[2,3]]])],aM (pv 1)]
 all_goals try dsimp only[aS,aH]
 refine⟨iy,λq f=>?_⟩;let s0:aJ H (aL H q (.lst [])):=ao f _;refine⟨Y,r,1,⟨_,bL.of (s0 _ _ e)⟩,eK (K:=bZ) (e:=r) (b:=j.map V.ref) (λi d a=>∃ (u v:Option V),d=[⇑↥r,⇑↥q,u,v]/\a q=⇑(.lst ((bC (row.take i)).map V.int))/\aJ H a) ⟨none,none,1,af,s0⟩ (by rintro i d a _ ⟨_,_,_,_,s⟩;exact bL.of (s _ _ e)) ?_ ?_⟩
 ·rintro i x d a g ⟨u,v,rfl,b,s⟩;rw[fK]at g;let⟨n,o,rfl⟩:=Option.map_eq_some_iff.mp g;let⟨⟨e,g⟩,j,p⟩:=c.get o;let⟨o,r,t⟩:=l _ (lK j);simp only at o r t;let step:=yX j
  let j:↑(bC (row.take i))+(g-e).toNat<=1000000:=by
   let z:=rR row (i+1);rw[step,dh,gx,dG]at z;exact iC z m
  exists n,Y,dO.of (s _ _ p),1,E,1,Z;refine⟨Y,.inl ⟨1,_,bL.of b⟩,Y,Y,E,1,λp c=>⟨p,E,1,af,⟨by lia,by lia,by lia,by lia⟩,gn (aN ∅),λm j=>?_⟩⟩;let l:aJ a (aL a p (.D5 e g)):=ao c _;let i:=l.trans (ao j (.lst (BD e (g-e).toNat)));exists q,m,Z,i _ _ b,af,?_
  ·rw[cC,yW,cC,dG];exact gn (aN ∅)
  ·refine⟨E,1,?_,bP f (s.trans i) (aG q _ _)⟩;rw[af,step,gP,yW];rfl
 ·rintro d a ⟨u,v,rfl,b,s⟩;refine⟨Y,k q a ?_ s f⟩;rw[cC,c.len,gU]at b;exact b
class inductive zY(d:Nat)
 | mk (f:Y1) (r:Addr) (a:dB) (x:Int) (b:Y2) (c:Int->Nat) (_:vs=[↥r,.int x]) (_:iM f H r a) (_:↑a<=1000) (_:gT a) (_:0<=x) (_:x<↑a) (_:mJ a b) (_:(∀ x:Int,0<=x->x<↑a->↑(b x)<=10000)) (_:(∀ x y,jS a x y->c y<c x)) (_:c x<d) (_ :
 ∀ (o:Addr) (e:Hp),e o=⇑(.lst ((b x).map V.int))->aJ H e->H o=none->Q ↥o e)
def AX(D:bW){n:Nat}(tw:bq c9 bu bZ cW cU cR (n+1) (d7 88) (d8 88) ["_law_rows","_law_sheet"] (zY n)):bq c9 bu bZ cW cU cR (n+2) (d7 88) (d8 88) ["_law_rows","_law_sheet"] (zY (n+1)):=by
 refine fm ["_law_rows","_law_sheet","_law_numbers","_law_entry"] D.E7.F λL O U s H W Q E o _ F=>?_;let⟨G,r,k,x,a,I,rfl,R,J,v,l,L,w,y,A,O,M⟩:=F;obtain⟨b,m⟩:∃ b,k[x.toNat]?=⇑b:=⟨_,mS ∅⟩;let⟨F,g,N,O,p,U⟩:=R.get m
 let S:om F x=⇑↥g:=by
  let z:=cP O;rw[show ((x.toNat:Nat):Int)=x by lia]at z;exact z
 let B:=w x b l m
 let T:∀ i,↑(aW a (b.take i))<=10000:=λi=>by
  let z:=y x l L
  let e:aW a b=aW a (b.take i)++aW a (b.drop i):=by
   unfold aW;rw[← List.flatMap_append,List.take_append_drop]
  rw[B,e,dh]at z;lia
 exists _,#v[aX 2 (bJ ah),eX PassesOwn.never rfl (cM (aP bH (pv 0) (pv 1))) (bX 3) #v[bO (aV jR (pv 3) az (bh _)) #v[aT (dX n8 PySem.F.slot_list_extend PySem.F.type_list_extend jY (pv 2) #[aC D.E7 tw o #[0,bx dD (ig fF az) (pv 3)]])] #v[aT (dX n8 jt ju bT (pv 2) #[3])]],aM (pv 2)]
 all_goals try dsimp only[aS,aH]
 refine⟨iy,λq h=>?_⟩;let o:aJ H (aL H q (.lst [])):=ao h _;refine⟨Y,Y,r,Q,V,bL.of (o _ _ N),S,g,1,⟨_,bL.of (o _ _ p)⟩,eK (K:=bZ) (e:=g) (b:=b.map V.int) (λi j f=>∃ u:Option V,j=[⇑↥r,⇑(.int x),⇑↥q,u]/\f q=⇑(.lst ((aW a (b.take i)).map V.int))/\aJ H f) ⟨none,1,af,o⟩ (by rintro i j f _ ⟨_,_,_,c⟩;exact bL.of (c _ _ p)) ?_ ?_⟩
 ·rintro i e j f t ⟨u,rfl,d,c⟩;rw[fK]at t;let⟨e,C,rfl⟩:=Option.map_eq_some_iff.mp t
  let g:aW a (b.take (i+1))=aW a (b.take i)++bf a e:=by
   rw[take_snoc C];unfold aW;rw[List.flatMap_append];simp
  let o:=T (i+1);rw[g,dh]at o;refine⟨Y,Z,Y,dM (λi=>?_) (λi=>?_)⟩
  ·let p:e<0:=of_decide_eq_true i;let t:bf a e=a (-1-e):=by unfold bf;rw[if_pos p]
   rw[t]at g o;let z:jS k x (-1-e):=⟨l,b,m,cH.mpr ⟨by lia,by rw[show -1-(-1-e)=e by lia];exact lK C⟩⟩;let⟨b,l⟩:=v.DZ z;let m:=A _ _ z;refine⟨Y,.inl ⟨1,_,bL.of d⟩,Y,Y,Y,Z,G,r,k,-1-e,a,I,1,R.same c,J,v,b,l,w,y,A,by lia,λk m l b r=>?_⟩;refine⟨q,k,Z,b _ _ d,l,gn (aN (by rw[cC,cC];lia)),?_⟩;refine⟨Y,?_,bP h (c.trans b) (aG q _ _)⟩;rw[af,g,gP]
  ·let p:¬ e<0:=λz=>i (decide_eq_true z);have t:bf a e=[e]:=by unfold bf;rw[if_neg p]
   rw[t]at g o;refine⟨Y,.inl ⟨1,_,bL.of d⟩,Y,q,Z,d,(by rw[cC];exact aN ∅),?_⟩;refine⟨Y,?_,bP h c (aG q _ _)⟩;rw[af,g,gP];rfl
 ·rintro j f ⟨u,rfl,d,c⟩;rw[cC,gU,← B]at d;exact⟨Y,M q f d c h⟩
theorem iR(D:bW):∀ n:Nat,bq c9 bu bZ cW cU cR (n+1) (d7 88) (d8 88) ["_law_rows","_law_sheet"] (zY n)
 | 0=>by
  let b:∀ a H Q E,¬ zY 0 a H Q E:=λa H Q E h=>by
   let⟨_,_,_,_,_,_,_,_,_,_,_,_,_,_,_,h,_⟩:=h;exact Nat.not_lt_zero _ h
  exact⟨λa H Q E h=>absurd h (b a H Q E),λA c s H args d a Q E _ _ _ _ h=>absurd h (b a H Q E)⟩
 | n+1=>AX D (iR D n)
def MS(a:dB):Nat->Int->List Int
 | 0,_=>[]
 | k+1,x=>match a[x.toNat]? with
  | some es=>aW (MS a k) es
  | none=>[]
def qx{f g:Y2}{a:Wp}(h:∀ y∈eU a,f y=g y):aW f a=aW g a:=by
 unfold aW;rw[List.flatMap_def,List.flatMap_def];congr 1;refine List.map_congr_left λe b=>?_;unfold bf;by_cases c:e<0
 ·rw[if_pos c,if_pos c,h (-1-e) (cH.mpr ⟨by lia,by rw[show -1-(-1-e)=e by lia];exact b⟩)]
 ·rw[if_neg c,if_neg c]
def zZ{a:dB}(h:CO a):∃ f,mJ a f:=by
 let⟨b,g,i⟩:=h
 let j:∀ (k:Nat) (x:Int),0<=x->b x<k->MS a k x=MS a (k+1) x:=by
  intro k
  induction k with
  | zero=>intro x _ h;lia
  | succ k l =>
   intro x c b
   cases e:a[x.toNat]? with
   | none=>simp[MS,e]
   | some b =>
    let d:MS a (k+1) x=aW (MS a k) b:=by simp[MS,e]
    let m:MS a (k+1+1) x=aW (MS a (k+1)) b:=by
     show (match a[x.toNat]? with|some b=>aW (MS a (k+1)) b|none=>[])=_;rw[e]
    rw[d,m];refine qx λy d=>l y (cH.mp d).1 ?_;have:=i x y ⟨c,b,e,d⟩;lia
 refine⟨MS a 41,λx b c d=>?_⟩;rw[j 41 x c (by have:=g x;lia)];show (match a[x.toNat]? with|some b=>aW (MS a 41) b|none=>[])=_;rw[d]
def Aa(n:Nat)(L:Wp):Nat:=cnt n λi=>decide ((i:Int)∉L)
def Mp{n:Nat}{L:Wp}{y:Int}(d:0<=y)(e:y<n)(a:y∉L):Aa n (L++[y])+1=Aa n L:=by
 refine uu y.toNat n ∅ ?_ λi=>?_
 ·show decide (((y.toNat:Nat):Int)∉L)=true;rw[show ((y.toNat:Nat):Int)=y by lia];exact decide_eq_true a
 ·show decide ((i:Int)∉L++[y])=(decide ((i:Int)∉L)&&decide (i≠y.toNat));rw[← Bool.decide_and];congr 1;rw[List.mem_append,List.mem_singleton];apply propext;constructor
  ·intro h;exact⟨λq=>h (.inl q),λq=>h (.inr ∅)⟩
  ·rintro⟨b,c⟩ (q|q)
   ·exact b q
   ·exact c ∅
def Dw(a b:Wp):eU (a++b)=eU a++eU b:=by unfold eU;rw[List.filterMap_append]
structure kk(rows:dB)(H:Hp)(Rr Wt:Addr)(s:Int)(pB:Int->Prop)(H2:Hp)(L ws:Wp):Prop where
 hR:H2 Rr=⇑(.lst (L.map V.int))
 hW:H2 Wt=⇑(.lst (ws.map V.int))
 sm:aJ H H2
 rc:∀ x∈L,Reach (jS rows) s x
 wr:∀ x∈ws,(x=s\/x∈L)/\0<=x/\x<↑rows
 kl:↑L+Aa ↑rows L<=↑rows
 cl:∀ x,(x=s\/x∈L)->x∈ws\/pB x\/∀ y,jS rows x y->y∈L
class inductive Mq
 | mk (c:Y1) (r:Addr) (a:dB) (s:Int) (_:vs=[↥r,.int s]) (_:iM c H r a) (_:↑a<=1000) (_:(∀ d∈a,↑d<=100000)) (_:gT a) (_:0<=s) (_:s<↑a) (_ :
 ∀ (L:Wp) (o:Addr) (b:Hp),b o=⇑(.lst (L.map V.int))->aJ H b->(∀ x,x∈L↔Reach (jS a) s x)->Q ↥o b)
def f'(n:Nat)(L a:Wp):Nat:=2*Aa n L+↑a
def UW(a:dB)(H:Hp)(r c d:Addr)(s:Int)(m:Nat)(e:_L2.St)(f:Hp):Prop:=∃ (L b:Wp) (u v:Option V),e=[⇑↥r,⇑(.int s),⇑↥c,⇑↥d,u,v]/\kk a H c d s (λ_=>False) f L b/\↑b+2*Aa ↑a L<=2*↑a+1/\m=f' ↑a L b
theorem Ab:‹(1,89,["_law_rows","_law_sheet"],Mq)›:=λD=>by
 specialize fm ["_law_rows","_law_sheet","_law_reached_here","_law_waiting","_law_here","_law_entry"] D.i'.F;let⟨av,r,e,s,rfl,ae,eG,W,oW,h0,h1,X⟩:=h;let hu:=gR hr;exists _,#v[aX 2 (bJ ah),aX 3 (bJ #[1]),nG PassesOwn.never (aV Bg (gg D.T.eV (pv 3)) az (bh _)) #v[aX 4 (Nk n8 PySem.F.slot_list_pop PySem.F.type_list_pop Np (pv 3)),eX PassesOwn.never rfl (cM (aP bH (pv 0) (pv 4))) (bX 5) #v[bO (PW.pt (pS (aV jR (pv 5) az (bh _)) (mW (aV tS (bx dD (ig fF az) (pv 5)) (pv 2) rfl)))) #v[aT (dX n8 jt ju bT (pv 2) #[bx dD (ig fF az) (pv 5)]),aT (dX n8 jt ju bT (pv 3) #[bx dD (ig fF az) (pv 5)])] bg]],aM (pv 2)]
 all_goals try dsimp only[aS,aH]
 refine⟨iy,λf R=>?_⟩;refine⟨Y,kH,λd o=>?_⟩;let S:aJ H (aL H f (.lst [])):=ao R _;let s2:=S.trans (ao o (.lst [.int s]))
 let T:H d=none:=by
  cases b:H d with
  | none=>rfl
  | some a=>exact absurd ((S _ _ b).symm.trans o) (by simp)
 let C:f≠d:=aA af o;exists UW e H r f d s,⟨_,[],[s],none,none,1,⟨ao o _ _ _ af,af,s2,?_,?_,?_,?_⟩,?_,1⟩
 ·intro x b;cases b
 ·intro x b;have:x=s:=by simpa using b
  exact⟨.inl this,by lia,by lia⟩
 ·have:=zm ↑e (λi=>decide ((i:Int)∉([]:Wp)));show 0+cnt ↑e _<=_;lia
 ·rintro x (rfl|b)
  ·exact .inl (by simp)
  ·cases b
 ·have:=zm ↑e (λi=>decide ((i:Int)∉([]:Wp)));show 1+2*cnt ↑e _<=_;lia
 rintro ag m U ⟨L,ws,ai,v,rfl,B,F,rfl⟩;exists Y,d,Y,.inl (bL.of B.hW),Z,Y;rcases l6 ws with rfl|⟨k,h,rfl⟩
 ·refine gp ⟨Y,X L f U B.hR B.sm λx=>⟨λb=>B.rc x b,λb=>?_⟩⟩
  let cU:∀ x,(x=s\/x∈L)->∀ y,jS e x y->y∈L:=λx b=>by
   rcases B.cl x b with z|z|z
   ·cases z
   ·exact z.elim
   ·exact z
  exact Reach.closed (a:=λy=>y∈L) (cU s (.inl rfl)) (λx y b=>cU x (.inr b) y) b
 rw[kj]at B F ⊢;refine dM (λ_=>?_) (λz=>absurd (decide_eq_true (by simp)) z);let⟨ag,o,ai,ak,S,am,an⟩:=id B;let⟨G,e0,X⟩:=S h (by simp);obtain⟨j,p⟩:∃ j,e[h.toNat]?=⇑j:=⟨_,mS ∅⟩;let X:=W j (lK p);refine⟨fun W X=>∃ m',m'<f' ↑e L (k++[h])/\UW e H r f d s m' W X,fun W X z=>z,?_⟩;refine⟨Y,.inl ⟨1,_,bL.of o⟩,d,_,.int h,V,o,(by simp),?_⟩;let o:((k++[h]).map V.int).dropLast=k.map V.int:=by simp
 rw[o];let o:aJ H (aL U d (.lst (k.map V.int))):=bP T ai (aG d _ _);let⟨xC,U,W,X,ab,ai⟩:=ae.get p;let ae:=o _ _ ab;refine⟨Y,Y,r,Q,V,bL.of (o _ _ W),?_,U,1,⟨_,bL.of ae⟩,eK (K:=bZ) (e:=U) (b:=j.map V.int) (λi m n=>∃ (_L2 g:Wp) (v:Option V),m=[⇑↥r,⇑(.int s),⇑↥f,⇑↥d,⇑(.int h),v]/\ kk e H f d s (λx=>x=h) n _L2 g/\(∀ y∈eU (j.take i),y∈_L2)/\(∀ y∈L,y∈_L2)/\g.length+2*Aa ↑e _L2<=k.length+2*Aa ↑e L) ?_ ?_ ?_ ?_⟩
 ·let z:=cP X;rw[show ((h.toNat:Nat):Int)=h by lia]at z;exact z
 ·refine⟨L,k,Y,⟨(by rw[aK C];exact ag),af,o,ak,λx b=>S x (n9 _ b),am,λx b=>?_⟩,(λy c=>by simp[eU]at c),λ_ q=>q,fH _⟩;rcases an x b with z|z|z
  ·rcases List.mem_append.mp z with q|q
   ·exact .inl q
   ·exact .inr (.inl (by simpa using q))
  ·exact z.elim
  ·exact .inr (.inr z)
 ·rintro i m n _ ⟨_,_,_,_,a,_⟩;exact bL.of (a.sm _ _ ab)
 ·rintro i x m n hi ⟨_L2,g,v,rfl,a,l,t,I⟩;rw[fK]at hi;let⟨x,ex,rfl⟩:=Option.map_eq_some_iff.mp hi;let step:eU (j.take (i+1))=eU (j.take i)++eU [x]:=by rw[take_snoc ex,Dw]
  refine⟨Y,Z,Y,dM (λJ=>?_) (λJ=>gp ?_)⟩
  ·let M:x<0:=of_decide_eq_true J;let u:eU [x]=[-1-x]:=by simp[eU,M]
   let N:jS e h (-1-x):=⟨e0,j,p,by
    rw[cH]
    exact⟨by lia,by rw[show -1-(-1-x)=x by lia];exact lK ex⟩⟩
   let⟨y0,y1⟩:=oW.DZ N;exists Y,Y,Z,Y,f,Y,.inl (bL.of a.hR),1,nO _L2,Y;rw[uv];by_cases w:-1-x∈_L2
   ·rw[decide_eq_true w];refine gp ?_;refine⟨_L2,g,Y,a,(λy c=>?_),t,I⟩;rw[step,u]at c;rcases List.mem_append.mp c with q|q
    ·exact l y q
    ·have:y=-1-x:=by simpa using q
     rw[this];exact w
   ·rw[decide_eq_false w];refine iF ?_;let e:=a.kl;let e:=Mp y0 y1 w;refine⟨Y,.inl ⟨1,_,bL.of a.hR⟩,Y,Y,Z,f,Z,a.hR,(by rw[cC];exact aN ∅),?_⟩;let e:(aL n f (.lst (_L2.map V.int++[.int (-1-x)]))) d=⇑(.lst (g.map V.int)):=by rw[aK C.symm];exact a.hW
    refine⟨Y,.inl ⟨1,_,bL.of e⟩,Y,Y,Z,d,Z,e,(by rw[cC];rw[dh,nC]at F;exact aN ∅),?_⟩;refine⟨_L2++[-1-x],g++[-1-x],Y,⟨?_,?_,bP T (bP R a.sm (aG f _ _)) (aG d _ _),?_,?_,?_,?_⟩,?_,λy q=>n9 _ (t y q),?_⟩
    ·rw[aK C,af,gP];rfl
    ·rw[af,gP];rfl
    ·intro y c;rcases List.mem_append.mp c with q|q
     ·exact a.rc y q
     ·have:y=-1-x:=by simpa using q
      subst this;rcases G with rfl|G
      ·exact .one N
      ·exact .step (B.rc h G) N
    ·intro y c;rcases List.mem_append.mp c with q|q
     ·let⟨b,d⟩:=a.wr y q;exact⟨b.imp id (n9 _),d⟩
     ·have:y=-1-x:=by simpa using q
      subst this;exact⟨.inr (by simp),y0,y1⟩
    ·rw[dh,nC];lia
    ·intro y c;by_cases b:y=-1-x
     ·exact .inl (by rw[b];simp)
     ·let O:y=s\/y∈_L2:=c.imp id λq=>by
       rcases List.mem_append.mp q with z|z
       ·exact z
       ·exact absurd (by simpa using z) b
      rcases a.cl y O with q|q|q
      ·exact .inl (n9 _ q)
      ·exact .inr (.inl q)
      ·exact .inr (.inr λz b=>n9 _ (q z b))
    ·intro y c;rw[step,u]at c;rcases List.mem_append.mp c with q|q
     ·exact n9 _ (l y q)
     ·exact nE _ q
    ·rw[dh,nC];lia
  ·let M:¬ x<0:=λz=>J (decide_eq_true z);have u:eU [x]=[]:=by simp[eU,M]
   exact⟨_L2,g,Y,a,(by rw[step,u,gV];exact l),t,I⟩
 ·rintro m n ⟨_L2,g,v,rfl,a,l,t,I⟩;rw[cC,gU]at l;refine⟨_,?_,_L2,g,E,1,⟨a.hR,a.hW,a.sm,a.rc,a.wr,a.kl,λx b=>?_⟩,?_,1⟩
  ·unfold f';rw[dh,nC];lia
  ·rcases a.cl x b with q|rfl|q
   ·exact .inl q
   ·refine .inr (.inr λy c=>l y ?_);let⟨_,a,i,O⟩:=c;rw[p]at i;cases i;exact O
   ·exact .inr (.inr q)
  ·rw[dh,nC]at F;lia
theorem oM(a:Y2)(b:Wp)(i:Nat):↑(aW a (b.take i))<=↑(aW a b):=iY (bf a) b i
class inductive vY(d:Nat)
 | mk (g:Y1) (r:Addr) (a:dB) (e:Int) (b:Y2) (c:Int->Nat) (_:vs=[↥r,.int e]) (_:iM g H r a) (_:↑a<=1000) (_:gT a) (_:mJ a b) (_:(∀ x:Int,0<=x->x<↑a->↑(b x)<=10000)) (_:(∀ x y,jS a x y->c y<c x)) (_:(e<0->-1-e<↑a/\c (-1-e)<d)) (_ :
 ∀ (o:Addr) (f:Hp),f o=⇑(.lst ((bf b e).map V.int))->aJ H f->H o=none->Q ↥o f)
def rW(D:bW){d:Nat}:bq c9 bu bZ cW cU cR (d+2) (d7 90) (d8 90) ["_law_rows","_law_entry"] (vY d):=by
 specialize fm ["_law_rows","_law_entry"] D.WG.F;let⟨b,r,f,e,g,i,rfl,R,j,l,m,n,o,p,k⟩:=h;exists _,#v[bO (aV jR (pv 1) az (bh _)) #v[aM (aC D.E7 (iR D d) hr #[0,bx dD (ig fF az) (pv 1)])] bg,aM (bJ #[1])]
 all_goals try dsimp only[aS,aH]
 refine⟨Y,Z,Y,dM (λc=>?_) (λc=>?_)⟩
 ·let a:e<0:=of_decide_eq_true c;let⟨q,s⟩:=p a;refine⟨Y,Y,Y,Z,b,r,f,-1-e,g,i,1,R,j,l,by lia,q,m,n,o,s,λo f h s0 b=>k o f ?_ s0 b⟩;unfold bf;rw[if_pos a];exact h
 ·let a:¬ e<0:=λz=>c (decide_eq_true z);refine⟨Y,kH,λo b=>k o _ ?_ (ao b _) b⟩;unfold bf;rw[if_neg a,af];rfl
theorem Dy(a:Y2)(p:Int):∀ (b:Wp) (f:Int),↑(aE a p f b)<=↑b+↑(aW a b)
 | [],_=>by simp[aE]
 | e::r,f=>by
  rw[aE,cz,dh,dh,fE];let c:=Dy a p r (f+↑(bf a e))
  let c:↑(if f+↑(bf a e)<=p then [e] else if p<=f then [] else (bf a e).take (p-f).toNat)<=1+↑(bf a e):=by
   split
   ·simp
   ·split
    ·simp
    ·rw[gm];lia
  lia
theorem Dz(a:Y2)(p:Int):∀ (b:Wp) (f:Int),↑(bE a p f b)<=↑b+↑(aW a b)
 | [],_=>by simp[bE]
 | e::r,f=>by
  rw[bE,cz,dh,dh,fE];let c:=Dz a p r (f+↑(bf a e))
  let c:↑(if f+↑(bf a e)<=p then [] else if p<=f then [e] else (bf a e).drop (p-f).toNat)<=1+↑(bf a e):=by
   split
   ·simp
   ·split
    ·simp
    ·rw[l9];lia
  lia
class inductive Il(d:Nat)
 | mk (h:Y1) (r n:Addr) (a:dB) (s p:Int) (c:Wp) (e:Y2) (f:Int->Nat) (_:vs=[↥r,.int s,.int p,↥n]) (_:iM h H r a) (_:↑a<=1000) (_:(∀ b∈a,↑b<=25000)) (_:gT a) (_:mJ a e) (_:(∀ x:Int,0<=x->x<↑a->↑(e x)<=10000)) (_:(∀ x y,jS a x y->f y<f x)) (_:0<=s) (_:s<↑a) (_:f s<=d) (_:H n=⇑(.lst (c.map V.int))) (_:↑c<=25000) (_ :
 ∀ (b:Wp) (o:Addr) (g:Hp),a[s.toNat]?=⇑b->g o=⇑(.lst ((gi e p b c).map V.int))->↑(gi e p b c)<=100000->aJ H g->H o=none->Q ↥o g)
def Im(D:bW){u:Nat}:bq c9 bu bZ cW cU cR (u+3) (d7 91) (d8 91) ["_law_rows","_law_sheet","_law_place","_law_new"] (Il u):=by
 let R:bq c9 bu bZ cW cU cR (u+2) _ _ ["_law_rows","_law_entry"] (vY u):=rW D;specialize fm ["_law_rows","_law_sheet","_law_place","_law_new","_law_ahead","_law_behind","_law_first","_law_entry","_law_pieces_here","_law_last"] D.OF.F;let⟨av,v,L,M,s,p,w,a,rk,rfl,ab,eG,T,oW,wB,D0,xB,N,h1,hd,hn,nl,ae⟩:=h;obtain⟨b,j⟩:∃ b,M[s.toNat]?=⇑b:=⟨_,mS ∅⟩;let ag:=T b (lK j);let T:=wB s b N j;let ag:=D0 s N h1;rw[T]at ag;let⟨T,x,uW,C8,O,ag⟩:=ab.get j
 let uD:om T s=⇑↥x:=by
  let z:=cP C8;rw[show ((s.toNat:Nat):Int)=s by lia]at z;exact z
 exists _,#v[bO (aV eE (gg D.T.eV (pv 3)) az (bh _)) #v[aM (fZ ie rfl D.T.jI tM #[aP bH (pv 0) (pv 1)])] bg,aX 4 (bJ ah),aX 5 (bJ ah),aX 6 az,eX PassesOwn.never rfl (cM (aP bH (pv 0) (pv 1))) (bX 7) #v[aX 8 (aC D.WG R hr #[0,7]),aX 9 (bx cT (pv 6) (gg D.T.eV (pv 8))),bO (aV gC (pv 9) (pv 2) (bh _)) #v[aT (dX n8 jt ju bT (pv 4) #[7])] #v[bO (aV gC (pv 2) (pv 6) (bh _)) #v[aT (dX n8 jt ju bT (pv 5) #[7])] #v[aT (dX n8 PySem.F.slot_list_extend PySem.F.type_list_extend jY (pv 4) #[gD jy (pv 8) kg (gj (bx dD (pv 2) (pv 6)))]),aT (dX n8 PySem.F.slot_list_extend PySem.F.type_list_extend jY (pv 5) #[gD jy (pv 8) (gj (bx dD (pv 2) (pv 6))) kg])]],aX 6 (pv 9)],aM (bx ja (bx ja (pv 4) (pv 3)) (pv 5))]
 all_goals try dsimp only[aS,aH]
 refine⟨Y,L,Y,.inl (bL.of hn),1,Y,dM (λR=>?_) (λR=>?_)⟩
 ·let n:w=[]:=by
   let z:V.int (↑(w.map V.int):Int)=V.int 0:=of_decide_eq_true R;let c:=V.int.inj z;rw[cC]at c;exact List.eq_nil_of_length_eq_zero ∅
  refine⟨Y,Y,v,Q,V,bL.of uW,uD,x,Y,.inl (bL.of O),λo y=>ae b o _ j ?_ ?_ (ao y _) y⟩
  ·rw[af];unfold gi;rw[if_pos n]
  ·unfold gi;rw[if_pos n];lia
 let n:¬ w=[]:=λz=>R (by rw[z];rfl);refine⟨iy,λA S=>⟨iy,λB R=>?_⟩⟩;have sA:aJ H (aL H A (.lst [])):=ao S _;have sB:aJ _ (aL (aL H A (.lst [])) B (.lst [])):=ao R _;have T:=sA.trans sB;have C:A≠B:=aA af R;have MN:=aU sA R;refine⟨Y,Y,v,Q,V,bL.of (T _ _ uW),uD,x,1,⟨_,bL.of (T _ _ O)⟩,eK (K:=bZ) (e:=x) (b:=b.map V.int) (λi F d=>∃ U W X:Option V,F=[⇑↥v,⇑(.int s),⇑(.int p),⇑↥L,⇑↥A,⇑↥B,⇑(.int (0+(↑(aW a (b.take i)):Int))),U,W,X]/\d A=⇑(.lst ((aE a p 0 (b.take i)).map V.int))/\d B=⇑(.lst ((bE a p 0 (b.take i)).map V.int))/\aJ H d) ⟨none,none,none,1,sB _ _ af,af,T⟩ (by rintro i F d _ ⟨_,_,_,_,_,_,c⟩;exact bL.of (c _ _ O)) ?_ ?_⟩
 ·rintro i ai F d hi ⟨U,W,X,rfl,q,G,c⟩;rw[fK]at hi;let⟨e,ex,rfl⟩:=Option.map_eq_some_iff.mp hi;let x:=take_snoc ex
  let f:aE a p 0 (b.take (i+1))=aE a p 0 (b.take i)++(if 0+(↑(aW a (b.take i)):Int)+↑(bf a e)<=p then [e] else if p<=0+(↑(aW a (b.take i)):Int) then [] else (bf a e).take (p-(0+(↑(aW a (b.take i)):Int))).toNat):=by
   rw[x,vK,aE,aE,gV]
  let g:bE a p 0 (b.take (i+1))=bE a p 0 (b.take i)++(if 0+(↑(aW a (b.take i)):Int)+↑(bf a e)<=p then [] else if p<=0+(↑(aW a (b.take i)):Int) then [e] else (bf a e).drop (p-(0+(↑(aW a (b.take i)):Int))).toNat):=by
   rw[x,vL,bE,bE,gV]
  let eF:(0+(↑(aW a (b.take (i+1))):Int))=0+(↑(aW a (b.take i)):Int)+↑(bf a e):=by
   rw[x,jK,cz,dh,dh];simp[aW]
  let lA:=Dy a p (b.take (i+1)) 0;let lB:=Dz a p (b.take (i+1)) 0;let x:=Dy a p (b.take i) 0;let x:=Dz a p (b.take i) 0;let x:=oM a b (i+1);let x:=oM a b i;let x:↑(b.take (i+1))<=↑b:=by rw[gm];lia
  let x:↑(b.take i)<=↑b:=by rw[gm];lia
  refine⟨Y,Y,av,v,M,e,a,rk,1,ab.same c,eG,oW,wB,D0,xB,λv=>?_,λo I h3 r y=>?_⟩
  ·let k:jS M s (-1-e):=⟨N,b,j,cH.mpr ⟨by lia,by rw[show -1-(-1-e)=e by lia];exact lK ex⟩⟩;have:=xB _ _ k;exact⟨(oW.DZ k).2,by lia⟩
  let k:=r _ _ q;let J:=r _ _ G;exists Y,Y,o,Y,.inl (bL.of h3),Z;rw[cC];refine⟨Y,Y,Z,Y,dM (λl=>?_) (λl=>?_)⟩
  ·let UX:0+(↑(aW a (b.take i)):Int)+(↑(bf a e):Int)<=p:=of_decide_eq_true l;rw[if_pos UX]at f g;refine⟨Y,.inl ⟨1,_,bL.of k⟩,Y,A,Z,k,aN (by rw[cC];lia),?_⟩;refine⟨Y,⇑(.int e),⇑↥o,⇑(.int (0+(↑(aW a (b.take i)):Int)+(↑(bf a e):Int))),?_,?_,?_,bP S (c.trans r) (aG A _ _)⟩
   ·rw[eF];rfl
   ·rw[af,f,gP];rfl
   ·rw[aK C.symm,g,gV];exact J
  ·let UX:¬ 0+(↑(aW a (b.take i)):Int)+(↑(bf a e):Int)<=p:=λz=>l (decide_eq_true z);rw[if_neg UX]at f g;refine⟨Y,Y,Z,Y,dM (λt=>?_) (λt=>?_)⟩
   ·let LX:p<=0+(↑(aW a (b.take i)):Int):=of_decide_eq_true t;rw[if_pos LX]at f g;refine⟨Y,.inl ⟨1,_,bL.of J⟩,Y,B,Z,J,aN (by rw[cC];lia),?_⟩;refine⟨Y,⇑(.int e),⇑↥o,⇑(.int (0+(↑(aW a (b.take i)):Int)+(↑(bf a e):Int))),?_,?_,?_,bP MN (c.trans r) (aG B _ _)⟩
    ·rw[eF];rfl
    ·rw[aK C,f,gV];exact k
    ·rw[af,g,gP];rfl
   ·let LX:¬ p<=0+(↑(aW a (b.take i)):Int):=λz=>t (decide_eq_true z);rw[if_neg LX]at f g;rw[f,dh]at lA;rw[g,dh]at lB;refine⟨Y,.inl ⟨1,_,bL.of k⟩,Y,Y,Y,Z,Y,o,Y,bL.of h3,λv x=>?_⟩;have m:aJ I (aL I v (.lst (ir ((bf a e).map V.int) none (⇑(p-(0+(↑(aW a (b.take i)):Int))))))):=ao x _;have e1:ir ((bf a e).map V.int) none (⇑(p-(0+(↑(aW a (b.take i)):Int))))=((bf a e).take (p-(0+(↑(aW a (b.take i)):Int))).toNat).map V.int:=by rw[sY _ ∅,List.map_take]
    refine⟨A,v,Z,m _ _ k,af,gn (aN (by rw[e1,cC,cC];lia)),?_⟩;let k4:cF A I (aL (aL I v (.lst (ir ((bf a e).map V.int) none (⇑(p-(0+(↑(aW a (b.take i)):Int))))))) A (.lst ((aE a p 0 (b.take i)).map V.int++ir ((bf a e).map V.int) none (⇑(p-(0+(↑(aW a (b.take i)):Int))))))):=cF.trans (aJ.keep m) (aG A _ _);let z:o≠A:=(aA q y).symm;let y:v≠A:=(aA k x).symm;let k:=k4 _ _ J C.symm;refine⟨Y,.inl ⟨1,_,bL.of k⟩,Y,Y,Y,Z,Y,o,Y,bL.of (k4 _ _ h3 z),λv gF=>?_⟩;let e2:ir ((bf a e).map V.int) (⇑(p-(0+(↑(aW a (b.take i)):Int)))) none=((bf a e).drop (p-(0+(↑(aW a (b.take i)):Int))).toNat).map V.int:=by rw[vO _ ∅,List.map_drop]
    refine⟨B,v,Z,ao gF _ _ _ k,af,gn (aN (by rw[e2,cC,cC];lia)),?_⟩;exists Y,⇑(.int e),⇑↥o,⇑(.int (0+(↑(aW a (b.take i)):Int)+(↑(bf a e):Int))),?_,?_,?_
    ·rw[eF];rfl
    ·rw[aK C,ao gF _ _ _ af,f,gP,e1]
    ·rw[af,g,gP,e2]
    ·exact bP MN ((bP S (c.trans r) k4).trans (ao gF _)) (aG B _ _)
 ·rintro F d ⟨U,W,X,rfl,q,G,c⟩;rw[cC,gU]at q G;let lA:=Dy a p b 0;let lB:=Dz a p b 0;refine⟨Y,Y,A,L,Z,q,c _ _ hn,gn (aN (by rw[cC,cC];lia)),λl e=>?_⟩;let m:aJ d (aL d l (.lst ((aE a p 0 b).map V.int++w.map V.int))):=ao e _;refine⟨Y,l,B,Z,af,m _ _ G,gn (aN (by rw[dh,cC,cC,cC];lia)),λt a=>?_⟩;refine ae b t _ j ?_ ?_ (c.trans (m.trans (ao a _))) (aU (c.trans m) a)
  ·rw[af];unfold gi;rw[if_neg n,gP,gP]
  ·unfold gi;rw[if_neg n,dh,dh];lia
def Qv(c:Y2)(a b f e:Int):Wp:=if a=b then [e] else J5 c a b f e
def Qw(c:Y2)(a b f e:Int):Wp:=if a=b then [] else MP c a b f e
def FT(a:Y2)(b c:Int)(d:Wp)(e:Int):bY a b c (d++[e])=bY a b c d++Qv a b c (0+(↑(aW a d):Int)) e:=by
 unfold bY Qv;split
 ·rfl
 ·rw[vM,kE,kE,gV]
def FU(a:Y2)(b c:Int)(d:Wp)(e:Int):iP a b c (d++[e])=iP a b c d++Qw a b c (0+(↑(aW a d):Int)) e:=by
 unfold iP Qw;split
 ·rfl
 ·rw[vN,tE,tE,gV]
def Tp(a:Y2)(b c f e:Int):↑(Qv a b c f e)<=1+2*↑(bf a e):=by
 unfold Qv J5;split
 ·simp
 ·split
  ·simp
  ·split
   ·simp
   ·rw[dh,gm,l9];lia
def Tq(a:Y2)(b c f e:Int):↑(Qw a b c f e)<=1+2*↑(bf a e):=by
 unfold Qw MP;split
 ·simp
 ·split
  ·simp
  ·split
   ·simp
   ·rw[l9,gm];lia
theorem PD(a:Y2)(b c:Int):∀ (d:Wp) (f:Int),↑(kE a b c f d)<=↑d+2*↑(aW a d)
 | [],_=>by simp[kE]
 | e::r,f=>by
  rw[kE,cz,dh,dh,fE];let x:=PD a b c r (f+↑(bf a e))
  let y:↑(J5 a b c f e)<=1+2*↑(bf a e):=by
   unfold J5;split
   ·simp
   ·split
    ·simp
    ·rw[dh,gm,l9];lia
  lia
theorem PF(a:Y2)(b c:Int):∀ (d:Wp) (f:Int),↑(tE a b c f d)<=↑d+2*↑(aW a d)
 | [],_=>by simp[tE]
 | e::r,f=>by
  rw[tE,cz,dh,dh,fE];let x:=PF a b c r (f+↑(bf a e))
  let y:↑(MP a b c f e)<=1+2*↑(bf a e):=by
   unfold MP;split
   ·simp
   ·split
    ·simp
    ·rw[l9,gm];lia
  lia
def tF(b:Y2)(c d:Int)(a:Wp):↑(bY b c d a)<=↑a+2*↑(aW b a):=by
 unfold bY;split
 ·lia
 ·exact PD b c d a 0
def Ac(b:Y2)(c d:Int)(a:Wp):↑(iP b c d a)<=↑a+2*↑(aW b a):=by
 unfold iP;split
 ·simp
 ·exact PF b c d a 0
class inductive PJ(d:Nat)
 | mk (i:Y1) (r:Addr) (c:dB) (s a b:Int) (g:Y2) (h:Int->Nat) (_:vs=[↥r,.int s,.int a,.int b]) (_:iM i H r c) (_:↑c<=1000) (_:(∀ e∈c,↑e<=1000)) (_:gT c) (_:mJ c g) (_:(∀ x:Int,0<=x->x<↑c->↑(g x)<=10000)) (_:(∀ x y,jS c x y->h y<h x)) (_:0<=s) (_:s<↑c) (_:h s<=d) (_:a<=b) (_ :
 ∀ (e:Wp) (t L M:Addr) (f:Hp),c[s.toNat]?=⇑e->f t=⇑(.tup [↥L,↥M])->f L=⇑(.lst ((bY g a b e).map V.int))->f M=⇑(.lst ((iP g a b e).map V.int))->aJ H f->H L=none->H M=none->L≠M->Q ↥t f)
def Io(D:bW){J:Nat}:bq c9 bu bZ cW cU cR (J+3) (d7 92) (d8 92) ["_law_rows","_law_sheet","_law_start","_law_stop"] (PJ J):=by
 let oN:bq c9 bu bZ cW cU cR (J+2) _ _ ["_law_rows","_law_entry"] (vY J):=rW D;specialize fm ["_law_rows","_law_sheet","_law_start","_law_stop","_law_kept","_law_taken","_law_first","_law_entry","_law_pieces_here","_law_last","_law_low","_law_high"] D.WH.F;let⟨av,r,ab,s,p,q,a,rk,rfl,an,eG,aw,oW,wB,D0,xB,h0,h1,hd,aB,ax⟩:=h;obtain⟨c,m⟩:∃ c,ab[s.toNat]?=⇑c:=⟨_,mS ∅⟩;let aB:=aw c (lK m);let aw:=wB s c h0 m;let aB:=D0 s h0 h1;rw[aw]at aB;let⟨xC,ae,uW,C8,ap,aw⟩:=an.get m
 let uD:om xC s=⇑↥ae:=by
  let z:=cP C8;rw[show ((s.toNat:Nat):Int)=s by lia]at z;exact z
 exists _,#v[aX 4 (bJ ah),aX 5 (bJ ah),aX 6 az,eX PassesOwn.never rfl (cM (aP bH (pv 0) (pv 1))) (bX 7) #v[aX 8 (aC D.WG oN hr #[0,7]),aX 9 (bx cT (pv 6) (gg D.T.eV (pv 8))),aX 10 (bU (lU rfl) rfl D.T.zw PyProof.Rows.boot_max #[az,bx dD (pv 2) (pv 6)]),aX 11 (bx dD (bU (nI rfl) rfl D.T.E2 PyProof.Rows.boot_min #[9,3]) (pv 6)),bO (PW.pt (Ec (aV eE (pv 2) (pv 3) (bh _)) (Ec (aV gC (pv 9) (pv 2) (bh _)) (Cy (aV gC (pv 3) (pv 6) (bh _)))))) #v[aT (dX n8 jt ju bT (pv 4) #[7])] #v[bO (PW.pt (pS (aV gC (pv 2) (pv 6) (bh _)) (mW (aV gC (pv 9) (pv 3) (bh _))))) #v[aT (dX n8 jt ju bT (pv 5) #[7])] #v[aT (dX n8 PySem.F.slot_list_extend PySem.F.type_list_extend jY (pv 4) #[bx ja (gD jy (pv 8) kg (gj (pv 10))) (gD jy (pv 8) (gj (pv 11)) kg)]),aT (dX n8 PySem.F.slot_list_extend PySem.F.type_list_extend jY (pv 5) #[gD jy (pv 8) (gj (pv 10)) (gj (pv 11))])]],aX 6 (pv 9)],aM (cZ #[4,5])]
 all_goals try dsimp only[aS,aH]
 refine⟨iy,λA L=>⟨iy,λB hB=>?_⟩⟩;let sA:aJ H (aL H A (.lst [])):=ao L _;let sB:aJ _ (aL (aL H A (.lst [])) B (.lst [])):=ao hB _;let s1:=sA.trans sB;let n:A≠B:=aA af hB;let MN:=aU sA hB
 let z0:bY a p q []=[]/\iP a p q []=[]:=by
  unfold bY iP
  constructor <;> split <;> rfl
 refine⟨Y,Y,r,Q,V,bL.of (s1 _ _ uW),uD,ae,1,⟨_,bL.of (s1 _ _ ap)⟩,eK (K:=bZ) (e:=ae) (b:=c.map V.int) (λi M k=>∃ t u v w x:Option V,M=[⇑↥r,⇑(.int s),⇑(.int p),⇑(.int q),⇑↥A,⇑↥B,⇑(.int (0+(↑(aW a (c.take i)):Int))),t,u,v,w,x]/\k A=⇑(.lst ((bY a p q (c.take i)).map V.int))/\k B=⇑(.lst ((iP a p q (c.take i)).map V.int))/\aJ H k) ⟨none,none,none,none,none,1,(by rw[List.take_zero,z0.1];exact sB _ _ af),(by rw[List.take_zero,z0.2];exact af),s1⟩ (by rintro i M k _ ⟨_,_,_,_,_,_,_,_,j⟩;exact bL.of (j _ _ ap)) ?_ ?_⟩
 ·rintro i a0 M k hi ⟨t,u,v,w,x,rfl,y,N,j⟩;rw[fK]at hi;let⟨e,ex,rfl⟩:=Option.map_eq_some_iff.mp hi;let st:=take_snoc ex;let O:=FT a p q (c.take i) e;let R:=FU a p q (c.take i) e;rw[← st]at O R
  let eF:(0+(↑(aW a (c.take (i+1))):Int))=0+(↑(aW a (c.take i)):Int)+↑(bf a e):=by
   rw[st,jK,cz,dh,dh];simp[aW]
  let ae:=tF a p q (c.take i);let ae:=Ac a p q (c.take i);let l1:=oM a c (i+1);let l0:=oM a c i
  let le:↑(bf a e)<=↑(aW a (c.take (i+1))):=by
   rw[st,jK,cz,dh,dh];lia
  let aO:=Tp a p q (0+(↑(aW a (c.take i)):Int)) e;let aQ:=Tq a p q (0+(↑(aW a (c.take i)):Int)) e;let t0:↑(c.take i)<=↑c:=by rw[gm];lia
  generalize hf:0+(↑(aW a (c.take i)):Int)=b at *;refine⟨Y,Y,av,r,ab,e,a,rk,1,an.same j,eG,oW,wB,D0,xB,λae=>?_,λo f S C ho=>?_⟩
  ·let d:jS ab s (-1-e):=⟨h0,c,m,cH.mpr ⟨by lia,by rw[show -1-(-1-e)=e by lia];exact lK ex⟩⟩;have:=xB _ _ d;exact⟨(oW.DZ d).2,by lia⟩
  let g:=C _ _ y;let T:=C _ _ N;exists Y,Y,o,Y,.inl (bL.of S),Z;rw[cC];exists Y,Y,Z,E,1;exists Y,Y,E,1,Y,Z
  let ag:(if p-b > 0 then p-b else 0).toNat=(p-b).toNat/\0<=(if p-b > 0 then p-b else 0):=by
   split <;> lia
  let zG:(p=q\/(b+(↑(bf a e):Int))<=p\/q<=b)->(aL f A (.lst ((bY a p q (c.take i)).map V.int++[.int e]))) A=⇑(.lst ((bY a p q (c.take (i+1))).map V.int))/\(aL f A (.lst ((bY a p q (c.take i)).map V.int++[.int e]))) B=⇑(.lst ((iP a p q (c.take (i+1))).map V.int)):=λd=>by
   let l:Qv a p q b e=[e]:=by
    unfold Qv J5;rcases d with d|d
    ·rw[if_pos d]
    ·rw[if_pos d];split <;> rfl
   let F:Qw a p q b e=[]:=by
    unfold Qw MP;rcases d with d|d
    ·rw[if_pos d]
    ·rw[if_pos d];split <;> rfl
   rw[af,aK n.symm,O,R,l,F,gV,gP];exact⟨1,T⟩
  let ai:∀ ab:Option V,[⇑(V.ref r),⇑(.int s),⇑(.int p),⇑(.int q),⇑↥A,⇑↥B,⇑(.int (b+(↑(bf a e):Int))),⇑(.int e),⇑↥o,⇑(.int (b+(↑(bf a e):Int))),⇑(.int (if p-b > 0 then p-b else 0)),ab]=[⇑↥r,⇑(.int s),⇑(.int p),⇑(.int q),⇑↥A,⇑↥B,⇑(.int (0+(↑(aW a (c.take (i+1))):Int))),⇑(.int e),⇑↥o,⇑(.int (b+(↑(bf a e):Int))),⇑(.int (if p-b > 0 then p-b else 0)),ab]:=λab=>by rw[eF]
  let ak:∀ d:(p=q\/(b+(↑(bf a e):Int))<=p\/q<=b),∃ t u v w x:Option V,[⇑(V.ref r),⇑(.int s),⇑(.int p),⇑(.int q),⇑↥A,⇑↥B,⇑(.int (b+(↑(bf a e):Int))),⇑(.int e),⇑↥o,⇑(.int (b+(↑(bf a e):Int))),⇑(.int (if p-b > 0 then p-b else 0)),⇑(.int ((if q<(b+(↑(bf a e):Int)) then q else (b+(↑(bf a e):Int)))-b))]=[⇑↥r,⇑(.int s),⇑(.int p),⇑(.int q),⇑↥A,⇑↥B,⇑(.int (0+(↑(aW a (c.take (i+1))):Int))),t,u,v,w,x]/\(aL f A (.lst ((bY a p q (c.take i)).map V.int++[.int e]))) A=⇑(.lst ((bY a p q (c.take (i+1))).map V.int))/\(aL f A (.lst ((bY a p q (c.take i)).map V.int++[.int e]))) B=⇑(.lst ((iP a p q (c.take (i+1))).map V.int))/\aJ H (aL f A (.lst ((bY a p q (c.take i)).map V.int++[.int e]))):=λd =>
   ⟨Q,E,ai _,(zG d).1,(zG d).2,bP L (j.trans C) (aG A _ _)⟩
  let mA:↑((bY a p q (c.take i)).map V.int)<sizeLine:=aN (by rw[cC];lia);refine⟨Y,Y,1,Y,dM (λd=>iF ?_) (λd=>?_)⟩
  ·exact⟨Y,.inl ⟨1,_,bL.of g⟩,Y,A,Z,g,mA,Y,ak (.inl (V.int.inj (of_decide_eq_true d)))⟩
  let U:¬ p=q:=λz=>d (by rw[z];exact decide_eq_true rfl);refine⟨Y,Y,Z,Y,dM (λd=>iF ?_) (λd=>?_)⟩
  ·exact⟨Y,.inl ⟨1,_,bL.of g⟩,Y,A,Z,g,mA,Y,ak (.inr (.inl (of_decide_eq_true d)))⟩
  let r:¬ (b+(↑(bf a e):Int))<=p:=λz=>d (decide_eq_true z);refine⟨Y,Y,Z,Y,dM (λd=>?_) (λd=>?_)⟩
  ·exact⟨Y,.inl ⟨1,_,bL.of g⟩,Y,A,Z,g,mA,Y,ak (.inr (.inr (of_decide_eq_true d)))⟩
  let ab:¬ q<=b:=λz=>d (decide_eq_true z);have W:¬ ((b+(↑(bf a e):Int))<=p\/q<=b):=λz=>z.elim r ab
  let hh:((if q<(b+(↑(bf a e):Int)) then q else (b+(↑(bf a e):Int)))-b).toNat=min ↑(bf a e) (q-b).toNat/\0<=(if q<(b+(↑(bf a e):Int)) then q else (b+(↑(bf a e):Int)))-b:=by
   split <;> lia
  let d:p<q:=by lia
  let tN:¬ (p<=b/\(b+(↑(bf a e):Int))<=q)->Qv a p q b e=(bf a e).take (if p-b > 0 then p-b else 0).toNat++(bf a e).drop ((if q<(b+(↑(bf a e):Int)) then q else (b+(↑(bf a e):Int)))-b).toNat/\Qw a p q b e=((bf a e).take ((if q<(b+(↑(bf a e):Int)) then q else (b+(↑(bf a e):Int)))-b).toNat).drop (if p-b > 0 then p-b else 0).toNat:=λd=>by
   unfold Qv Qw J5 MP;rw[if_neg U,if_neg U,if_neg W,if_neg W,if_neg d,if_neg d,ag.1,hh.1];rcases Nat.le_total (q-b).toNat ↑(bf a e) with z|z
   ·rw[Nat.min_eq_right z];exact⟨V⟩
   ·rw[Nat.min_eq_left z,xm z,xm (fH _),pO z,pO (fH _)];exact⟨V⟩
  refine⟨Y,Y,Z,Y,Od (λz=>⟨Y,Y,Z,Y,z⟩) (λX=>?_) (λX=>?_)⟩
  ·let l:Qv a p q b e=[]:=by unfold Qv J5;rw[if_neg U,if_neg W,if_pos X]
   let F:Qw a p q b e=[e]:=by unfold Qw MP;rw[if_neg U,if_neg W,if_pos X]
   refine⟨Y,.inl ⟨1,_,bL.of T⟩,Y,B,Z,T,aN (by rw[cC];lia),Y,Q,E,ai _,?_,?_,bP MN (j.trans C) (aG B _ _)⟩
   ·rw[aK n,O,l,gV];exact g
   ·rw[af,R,F,gP];rfl
  ·let⟨r1,r2⟩:=tN X;rw[r1,dh]at aO;rw[r2]at aQ;refine⟨Y,.inl ⟨1,_,bL.of g⟩,Y,Y,Y,o,Y,bL.of S,λl r=>?_⟩;rw[sY _ ag.2,← List.map_take];let d:aJ f (aL f l (.lst (((bf a e).take (if p-b > 0 then p-b else 0).toNat).map V.int))):=ao r _;refine⟨Y,Y,Y,o,Y,bL.of (d _ _ S),λF z=>?_⟩;rw[vO _ hh.2,← List.map_drop];let r:aJ _ (aL (aL f l (.lst (((bf a e).take (if p-b > 0 then p-b else 0).toNat).map V.int))) F (.lst (((bf a e).drop ((if q<(b+(↑(bf a e):Int)) then q else (b+(↑(bf a e):Int)))-b).toNat).map V.int))):=ao z _;refine⟨l,F,Z,r _ _ af,af,(by rw[cC,cC];exact gn (aN ∅)),λG z=>?_⟩;let U:aJ _ (aL (aL (aL f l (.lst (((bf a e).take (if p-b > 0 then p-b else 0).toNat).map V.int))) F (.lst (((bf a e).drop ((if q<(b+(↑(bf a e):Int)) then q else (b+(↑(bf a e):Int)))-b).toNat).map V.int))) G (.lst (((bf a e).take (if p-b > 0 then p-b else 0).toNat).map V.int++((bf a e).drop ((if q<(b+(↑(bf a e):Int)) then q else (b+(↑(bf a e):Int)))-b).toNat).map V.int))):=ao z _;let I:=d.trans (r.trans U);let aq:(aL (aL (aL f l (.lst (((bf a e).take (if p-b > 0 then p-b else 0).toNat).map V.int))) F (.lst (((bf a e).drop ((if q<(b+(↑(bf a e):Int)) then q else (b+(↑(bf a e):Int)))-b).toNat).map V.int))) G (.lst (((bf a e).take (if p-b > 0 then p-b else 0).toNat).map V.int++((bf a e).drop ((if q<(b+(↑(bf a e):Int)) then q else (b+(↑(bf a e):Int)))-b).toNat).map V.int))) G=⇑(.lst (((bf a e).take (if p-b > 0 then p-b else 0).toNat).map V.int++((bf a e).drop ((if q<(b+(↑(bf a e):Int)) then q else (b+(↑(bf a e):Int)))-b).toNat).map V.int)):=af;generalize aL (aL (aL f l (.lst (((bf a e).take (if p-b > 0 then p-b else 0).toNat).map V.int))) F (.lst (((bf a e).drop ((if q<(b+(↑(bf a e):Int)) then q else (b+(↑(bf a e):Int)))-b).toNat).map V.int))) G (.lst (((bf a e).take (if p-b > 0 then p-b else 0).toNat).map V.int++((bf a e).drop ((if q<(b+(↑(bf a e):Int)) then q else (b+(↑(bf a e):Int)))-b).toNat).map V.int))=H6 at I aq;refine⟨A,G,Z,I _ _ g,aq,(by rw[dh,cC,cC,cC];exact gn (aN ∅)),?_⟩;let k7:cF A H6 (aL H6 A (.lst ((bY a p q (c.take i)).map V.int++(((bf a e).take (if p-b > 0 then p-b else 0).toNat).map V.int++((bf a e).drop ((if q<(b+(↑(bf a e):Int)) then q else (b+(↑(bf a e):Int)))-b).toNat).map V.int)))):=aG A _ _;let ar:(aL H6 A (.lst ((bY a p q (c.take i)).map V.int++(((bf a e).take (if p-b > 0 then p-b else 0).toNat).map V.int++((bf a e).drop ((if q<(b+(↑(bf a e):Int)) then q else (b+(↑(bf a e):Int)))-b).toNat).map V.int)))) A=⇑(.lst ((bY a p q (c.take (i+1))).map V.int)):=by rw[af,O,r1,gP,gP]
   let d:o≠A:=(aA y ho).symm;let as:=k7 _ _ (I _ _ S) d;let am:=k7 _ _ (I _ _ T) n.symm;let au:=bP L (j.trans (C.trans I)) k7;generalize aL H6 A (.lst ((bY a p q (c.take i)).map V.int++(((bf a e).take (if p-b > 0 then p-b else 0).toNat).map V.int++((bf a e).drop ((if q<(b+(↑(bf a e):Int)) then q else (b+(↑(bf a e):Int)))-b).toNat).map V.int)))=a at k7 ar as am au;refine⟨Y,.inl ⟨1,_,bL.of am⟩,Y,Y,Y,Y,Y,o,Y,bL.of as,λb a=>?_⟩;rw[FF _ ag.2 hh.2,← List.map_take,← List.map_drop];refine⟨B,b,Z,ao a _ _ _ am,af,(by rw[cC,cC];exact gn (aN ∅)),?_⟩;refine⟨Y,Q,E,ai _,?_,?_,bP MN (au.trans (ao a _)) (aG B _ _)⟩
   ·rw[aK n];exact ao a _ _ _ ar
   ·rw[af,R,r2,gP]
 ·rintro M k ⟨t,u,v,w,x,rfl,y,N,j⟩;rw[cC,gU]at y N;refine⟨Y,Y,mT,λt a=>ax c t A B _ m af (ao a _ _ _ y) (ao a _ _ _ N) (j.trans (ao a _)) L MN n⟩
class inductive qU(d:Nat)
 | mk (c:Y1) (r:Addr) (a:dB) (x:Int) (f:Int->Int) (b:Int->Nat) (_:vs=[↥r,.int x]) (_:iM c H r a) (_:↑a<=1000) (_:gT a) (_:0<=x) (_:x<↑a) (_:Weighs a f) (_:(∀ x y,jS a x y->b y<b x)) (_:b x<d) (_:Q (.int (f x)) H)
def vZ(D:bW){n:Nat}(v:bq c9 bu bZ cW cU cR (n+1) (d7 93) (d8 93) ["_law_rows","_law_sheet"] (qU n)):bq c9 bu bZ cW cU cR (n+2) (d7 93) (d8 93) ["_law_rows","_law_sheet"] (qU (n+1)):=by
 specialize fm ["_law_rows","_law_sheet","_law_total","_law_entry"] D.WI.F;let⟨w,r,d,x,f,y,rfl,R,B,l,m,t,o,p,G,C⟩:=h;obtain⟨a,g⟩:∃ a,d[x.toNat]?=⇑a:=⟨_,mS ∅⟩;let⟨t,j,F,G,k,J⟩:=R.get g
 let I:om t x=⇑↥j:=by
  let z:=cP G;rw[show ((x.toNat:Nat):Int)=x by lia]at z;exact z
 exists _,#v[aX 2 az,eX PassesOwn.never rfl (cM (aP bH (pv 0) (pv 1))) (bX 3) #v[aX 2 (bx cT (pv 2) az),bO (aV jR (pv 3) az (bh _)) #v[aX 2 (bx cT (pv 2) (aC D.WI v hr #[0,bx dD (ig fF az) (pv 3)]))] bg],aM (pv 2)]
 all_goals try dsimp only[aS,aH]
 refine⟨Y,Y,r,Q,V,bL.of F,I,j,1,⟨_,bL.of k⟩,eK (K:=bZ) (e:=j) (b:=a.map V.int) (λi b c=>∃ u:Option V,b=[⇑↥r,⇑(.int x),⇑(.int (kJ f (a.take i))),u]/\c=H) ⟨none,V⟩ (λi b c _ ⟨E,e⟩=>by rw[e];exact bL.of k) ?_ ?_⟩
 ·rintro i e b c q ⟨u,rfl,rfl⟩;rw[fK]at q;let⟨e,s,rfl⟩:=Option.map_eq_some_iff.mp q
  let q:kJ f (a.take (i+1))=kJ f (a.take i)+(if e<0 then 1+f (-1-e) else 1):=by
   rw[take_snoc s];unfold kJ;rw[gP,List.sum_append];simp
  exists Y,Z;refine⟨Y,Z,Y,dM (λj=>?_) (λj=>?_)⟩
  ·let k:e<0:=of_decide_eq_true j;let t:jS d x (-1-e):=⟨m,a,g,cH.mpr ⟨by lia,by rw[show -1-(-1-e)=e by lia];exact lK s⟩⟩;let⟨s,z⟩:=l.DZ t;let F:=p _ _ t;exists Y,Y,Y,Y,Z,w,r,d,-1-e,f,y,1,R,B,l,s,z,o,p,by lia,Z;refine⟨⇑(.int e),?_,1⟩;rw[q,if_pos k];show [⇑(V.ref r),⇑(V.int x),⇑(V.int (kJ f (a.take i)+1+f (-1-e))),⇑(V.int e)]=_;rw[show kJ f (a.take i)+1+f (-1-e)=kJ f (a.take i)+(1+f (-1-e)) by lia]
  ·let k:¬ e<0:=λz=>j (decide_eq_true z);refine⟨⇑(.int e),?_,1⟩;rw[q,if_neg k];rfl
 ·rintro b c ⟨u,rfl,rfl⟩;rw[cC,gU,← o x a m g];exact⟨Y,C⟩
theorem qy(D:bW):∀ n:Nat,bq c9 bu bZ cW cU cR (n+1) (d7 93) (d8 93) ["_law_rows","_law_sheet"] (qU n)
 | 0=>by
  let b:∀ a H Q E,¬ qU 0 a H Q E:=λa H Q E h=>by
   let⟨_,_,_,_,_,_,_,_,_,_,_,_,_,_,h,_⟩:=h;exact Nat.not_lt_zero _ h
  exact⟨λa H Q E h=>absurd h (b a H Q E),λA c s H args d a Q E _ _ _ _ h=>absurd h (b a H Q E)⟩
 | n+1=>vZ D (qy D n)
def Reach.trans{E:Int->Int->Prop}{a b c:Int}(h:Reach E a b)(g:Reach E b c):Reach E a c:=by
 induction g with
 | one e=>exact .step h e
 | step _ e d=>exact .step d e
theorem FW{p q:Nat->Bool}(h:∀ i,p i=true->q i=true):∀ n,cnt n p<=cnt n q
 | 0=>fH _
 | n+1=>by
  rw[uq,uq];let a:=FW h n;by_cases c:p n=true
  ·rw[if_pos c,if_pos (h n c)];lia
  ·rw[if_neg c];lia
open Classical in
def Xy{a:dB}(c:gT a)(l:↑a<=40)(h:∀ x,¬ Reach (jS a) x x):CO a:=by
 refine⟨λx=>cnt ↑a λi=>decide (Reach (jS a) x (i:Int)),λx=>iC (zm _ _) l,λx y n=>?_⟩;let⟨b,d⟩:=c.DZ n;let b:((y.toNat:Nat):Int)=y:=by lia
 let d:=FW (p:=λi=>decide (Reach (jS a) y (i:Int))) (q:=λi=>decide (Reach (jS a) x (i:Int))&&decide (i≠y.toNat)) (λi d=>by
  let r:=of_decide_eq_true d;rw[Bool.and_eq_true];refine⟨decide_eq_true ((Reach.one n).trans r),decide_eq_true λz=>?_⟩;rw[z,b]at r
  exact h _ r) ↑a
 let d:=uu y.toNat ↑a (p:=λi=>decide (Reach (jS a) x (i:Int))) (q:=λi=>decide (Reach (jS a) x (i:Int))&&decide (i≠y.toNat)) ∅ (decide_eq_true (by rw[b];exact .one n)) (λ_=>rfl);show cnt _ _<cnt _ _;lia
def Kl{a:dB}{s:Nat}{b:Wp}{x y:Int}(h:jS (a.set s b) x y)(c:x.toNat≠s):jS a x y:=by
 let⟨d,f,e,g⟩:=h;rw[List.getElem?_set_ne (λz=>c z.symm)]at e;exact⟨d,f,e,g⟩
def PK{a:dB}{s:Int}{c:Wp}(j:0<=s)(g:CO a)(n:¬ Reach (jS (a.set s.toNat c)) s s):∀ x,¬ Reach (jS (a.set s.toNat c)) x x:=by
 let h:∀ {b d:Int},Reach (jS (a.set s.toNat c)) b d->Reach (jS a) b d\/((b=s\/Reach (jS (a.set s.toNat c)) b s)/\Reach (jS (a.set s.toNat c)) s d):=by
  intro b d r
  induction r with
  | one e =>
   by_cases f:b.toNat=s.toNat
   ·let q:b=s:=by have:=e.1;lia
    rw[q]at e;exact .inr ⟨.inl q,.one e⟩
   ·exact .inl (.one (Kl e f))
  | @step y z r e i =>
   by_cases f:y.toNat=s.toNat
   ·let q:y=s:=by have:=e.1;lia
    rw[q]at r e;exact .inr ⟨.inr r,.one e⟩
   ·rcases i with i|i
    ·exact .inl (.step i (Kl e f))
    ·exact .inr ⟨i.1,.step i.2 e⟩
 intro x r;rcases h r with z|⟨z|z,y⟩
 ·exact g.j9 z
 ·rw[z]at y;exact n y
 ·exact n (y.trans z)
def Mr(f:Int->Int)(e:Int)(r:Wp):kJ f (e::r)=(if e<0 then 1+f (-1-e) else 1)+kJ f r:=by unfold kJ;rw[jv,List.sum_cons]
theorem Km{b:Y2}{f:Int->Int}:∀ {a:Wp},(∀ y∈eU a,(↑(b y):Int)<=f y)->(↑a:Int)<=kJ f a/\(↑(aW b a):Int)<=kJ f a
 | [],_=>by simp[kJ,aW]
 | e::r,h=>by
  let c:=Km (a:=r) λy c=>h y (cH.mpr ⟨(cH.mp c).1,kY _ (cH.mp c).2⟩);rw[Mr,cz,dh,fE];unfold bf;by_cases c:e<0
  ·let z:=h (-1-e) (cH.mpr ⟨by lia,by rw[show -1-(-1-e)=e by lia];simp⟩);rw[if_pos c,if_pos c];lia
  ·rw[if_neg c,if_neg c,nC];lia
def FY{b:dB}{c:Y2}{f:Int->Int}(h:gT b)(i:CO b)(j:mJ b c)(l:Weighs b f):∀ x:Int,0<=x->∀ a,b[x.toNat]?=⇑a->(↑a:Int)<=f x/\(↑(c x):Int)<=f x:=by
 let⟨g,_,m⟩:=i
 let o:∀ (k:Nat) (x:Int),g x<k->0<=x->∀ a,b[x.toNat]?=⇑a->(↑a:Int)<=f x/\(↑(c x):Int)<=f x:=by
  intro k
  induction k with
  | zero=>intro x d;lia
  | succ k k =>
   intro x n d a e;rw[l x a d e,j x a d e];refine Km λy p=>?_;have n:jS b x y:=⟨d,a,e,p⟩;let⟨d,e⟩:=h.DZ n;have:=m _ _ n;exact (k y ∅ d _ (mS ∅)).2
 exact λx=>o (g x+1) x (Nat.lt_succ_self _)
def PL{a:dB}{c:Y2}{N:Int->Prop}(l:gT a)(m:CO a)(n:mJ a c)(o:∀ p∈a,∀ e∈p,0<=e->N e):∀ x:Int,0<=x->x<↑a->∀ y∈c x,N y:=by
 let⟨f,b,q⟩:=m
 let r:∀ (k:Nat) (x:Int),f x<k->0<=x->x<↑a->∀ y∈c x,N y:=by
  intro k
  induction k with
  | zero=>intro x h;lia
  | succ k k =>
   intro x d g h y b;let d:a[x.toNat]?=⇑a[x.toNat]:=mS ∅;rw[n x _ g d]at b;unfold aW at b;let⟨e,h,b⟩:=List.mem_flatMap.mp b;unfold bf at b;by_cases i:e<0
   ·rw[if_pos i]at b;let j:jS a x (-1-e):=⟨g,_,d,cH.mpr ⟨by lia,by rw[show -1-(-1-e)=e by lia];exact h⟩⟩;let⟨g,s⟩:=l.DZ j;have:=q _ _ j;exact k _ ∅ g s y b
   ·rw[if_neg i]at b;rw[List.mem_singleton.mp b];exact o _ (lK d) e h ∅
 exact λx=>r (f x+1) x (Nat.lt_succ_self _)
def rX(n m:Nat)(e:Int):Prop:=(0<=e/\e<(n:Nat))\/(e<0/\-1-e<(m:Nat))
structure Good(n:Nat)(rows:dB):Prop where
 en:∀ es∈rows,∀ e∈es,rX n ↑rows e
 rk:CO rows
 ln:↑rows<=40
 wt:∃ f,Weighs rows f/\∀ x:Int,0<=x->x<↑rows->f x<=200
theorem DA{n:Nat}{a:dB}(h:∀ b∈a,∀ e∈b,rX n ↑a e):gT a:=λb c y d=>by
 let⟨g,f⟩:=cH.mp d;rcases h b c _ f with z|z
 ·lia
 ·have:=z.2;lia
structure Gd(n:Nat)(rows:dB)(sh:Y2):Prop where
 sn:Seen rows sh
 Yp:∀ x:Int,0<=x->x<↑rows->∀ a∈sh x,0<=a/\a<(n:Nat)
 sl:∀ x:Int,0<=x->x<↑rows->↑(sh x)<=200
 es:∀ es∈rows,↑es<=200
 en:∀ es∈rows,∀ e∈es,rX n ↑rows e
 ln:↑rows<=40
def Good.es{n:Nat}{a:dB}(h:Good n a):∀ es∈a,↑es<=200:=by
 let⟨en,rk,ln,f,c,d⟩:=h;let⟨b,e⟩:=zZ rk;intro es f;let⟨i,b⟩:=List.mem_iff_getElem?.mp f;let f:=(List.getElem?_eq_some_iff.mp b).1;let f:=FY (DA en) rk e c (i:Int) ∅ es (by rw[Int.toNat_natCast];exact b);have:=d (i:Int) ∅ ∅;lia
def Good.UY{n:Nat}{c:dB}(i:Good n c):∃ a,Gd n c a:=by
 let j:=i.es;let⟨en,rk,ln,f,l,d⟩:=i;let⟨a,e⟩:=zZ rk;let f:=DA en
 let k:∀ x:Int,0<=x->x<↑c->↑(a x)<=200:=λx b g=>by
  let h:=FY f rk e l x b _ (mS ∅);have:=d x b g;lia
 refine⟨a,⟨λes h=>by have:=j es h;lia,f,rk,e,λx b g=>by have:=k x b g;lia⟩,PL f rk e (λes h m d e0=>?_),k,j,en,ln⟩;rcases en es h m d with z|z
 ·exact z
 ·lia
def Good.bears{n:Nat}{a:dB}(h:Good n a):∃ f,mR a f:=by
 let b:=h.es;let⟨en,rk,ln,f,c,d⟩:=h;exact⟨f,by lia,λes e=>by have:=b es e;lia,DA en,rk,c,d⟩
def PM{n:Nat}{a:dB}{s:Nat}{b:Wp}(h:∀ b∈a,∀ e∈b,rX n ↑a e)(g:∀ e∈b,rX n ↑a e):∀ c∈a.set s b,∀ e∈c,rX n ↑(a.set s b) e:=by
 intro c d;rw[List.length_set];rcases List.mem_or_eq_of_mem_set d with z|z
 ·exact h c z
 ·rw[z];exact g
theorem FZ{a:Y2}{N:Int->Prop}(d:∀ e,N e->∀ x∈bf a e,N x)(p:Int):∀ (c:Wp) (f:Int),(∀ e∈c,N e)->∀ x,x∈aE a p f c\/x∈bE a p f c->N x
 | [],_,_=>λx b=>by rcases b with z | z <;> cases z
 | e::r,f,h=>by
  intro x b;rw[aE,bE,List.mem_append,List.mem_append]at b;let g:=d e (h e (by simp));let i:=FZ d p r (f+↑(bf a e)) (λy j=>h y (kY _ j)) x;rcases b with (z|z)|(z|z)
  ·split at z
   ·rw[List.mem_singleton.mp z];exact h e (by simp)
   ·split at z
    ·cases z
    ·exact g x (xq z)
  ·exact i (.inl z)
  ·split at z
   ·cases z
   ·split at z
    ·rw[List.mem_singleton.mp z];exact h e (by simp)
    ·exact g x (List.mem_of_mem_drop z)
  ·exact i (.inr z)
theorem PN{b:Y2}{N:Int->Prop}(j:∀ e,N e->∀ x∈bf b e,N x)(c d:Int):∀ (g:Wp) (f:Int),(∀ e∈g,N e)->∀ x,x∈kE b c d f g\/x∈tE b c d f g->N x
 | [],_,_=>λx a=>by rcases a with z | z <;> cases z
 | e::r,f,h=>by
  intro x a;rw[kE,tE,List.mem_append,List.mem_append]at a;let i:=j e (h e (by simp));let k:=PN j c d r (f+↑(bf b e)) (λy l=>h y (kY _ l)) x;unfold J5 MP at a;rcases a with (z|z)|(z|z)
  ·split at z
   ·rw[List.mem_singleton.mp z];exact h e (by simp)
   ·split at z
    ·cases z
    ·rcases List.mem_append.mp z with z|z
     ·exact i x (xq z)
     ·exact i x (List.mem_of_mem_drop z)
  ·exact k (.inl z)
  ·split at z
   ·cases z
   ·split at z
    ·rw[List.mem_singleton.mp z];exact h e (by simp)
    ·exact i x (xq (List.mem_of_mem_drop z))
  ·exact k (.inr z)
def v8{c:Y2}{N:Int->Prop}(d:∀ e,N e->∀ x∈bf c e,N x){p:Int}{b f:Wp}(h:∀ e∈b,N e)(g:∀ e∈f,N e):∀ e∈gi c p b f,N e:=by
 intro x a;unfold gi at a;split at a
 ·exact h x a
 ·rw[List.mem_append,List.mem_append]at a;rcases a with (z|z)|z
  ·exact FZ d p b 0 h x (.inl z)
  ·exact g x z
  ·exact FZ d p b 0 h x (.inr z)
def Gd.cl{n:Nat}{b:dB}{c:Y2}(h:Gd n b c):∀ e,rX n ↑b e->∀ x∈bf c e,rX n ↑b x:=by
 intro e d x a;unfold bf at a;rcases d with z|z
 ·rw[if_neg ∅]at a;rw[List.mem_singleton.mp a];exact .inl z
 ·rw[if_pos z.1]at a;exact .inl (h.Yp _ ∅ z.2 x a)
def Gd.own{n:Nat}{a:dB}{b:Y2}(h:Gd n a b)(s:Int):∀ e∈_gI.own a s,rX n ↑a e:=by
 unfold _gI.own
 cases e:a[s.toNat]? with
 | none=>exact λ_ z=>nomatch z
 | some es=>exact h.en es (lK e)
inductive LD
 | put (s p:Int) (r:Addr) (c:Row)
 | cut (s a b:Int)
 | Tr (s a b t:Int)
 | UZ (t p s a b:Int)
 | win (t p s:Int)
 | fix (s:Int)
def LD.sh:LD->Int
 | .put s _ _ _=>s
 | .cut s _ _=>s
 | .Tr s _ _ _=>s
 | .UZ t _ _ _ _=>t
 | .win t _ _=>t
 | .fix s=>s
def LD.At(H:Hp)(d:Addr):LD->Prop
 | .put s p r row=>H d=⇑(.tup [.str "put",.int s,.int p,↥r])/\bV H r row
 | .cut s a b=>H d=⇑(.tup [.str "cut",.int s,.int a,.int b])
 | .Tr s a b t=>H d=⇑(.tup [.str "move",.int s,.int a,.int b,.int t])
 | .UZ t p s a b=>H d=⇑(.tup [.str "quote",.int t,.int p,.int s,.int a,.int b])
 | .win t p s=>H d=⇑(.tup [.str "window",.int t,.int p,.int s])
 | .fix s=>H d=⇑(.tup [.str "fix",.int s])
def LD.Ok(n m:Nat)(sh:Y2):LD->Prop
 | .put s p _ row=>qR m s/\(0<=p/\p<=↑(sh s))/\↑row<=2/\∀ q∈row,0<=q.1/\q.1<q.2/\q.2<=(n:Nat)/\q.2<=q.1+40
 | .cut s a b=>qR m s/\Rt a b ↑(sh s)
 | .Tr s a b t=>qR m s/\Mv a b t ↑(sh s)
 | .UZ t p s a b=>qR m t/\(0<=p/\p<=↑(sh t))/\qR m s/\Rt a b ↑(sh s)
 | .win t p s=>qR m t/\(0<=p/\p<=↑(sh t))/\qR m s
 | .fix s=>qR m s
def LD.res(sh:Y2)(c:dB):LD->List Int
 | .put s p _ row=>gi sh p (own c s) (bC row)
 | .cut s a b=>bY sh a b (own c s)
 | .Tr s a b t=>lQ sh a b t (own c s)
 | .UZ t p s a b=>gi sh p (own c t) (((sh s).take b.toNat).drop a.toNat)
 | .win t p s=>gi sh p (own c t) [-1-s]
 | .fix s=>sh s
def LD.Yp{n m:Nat}{sh:Y2}{a:LD}(h:a.Ok n m sh):qR m a.sh:=by
 cases a with
 | fix=>exact h
 | _=>exact h.1
def LD.Xz{n:Nat}{f:dB}{sh:Y2}(g:Gd n f sh){i:LD}(h:i.Ok n ↑f sh):∀ e∈i.res sh f,rX n ↑f e:=by
 let d:=g.cl
 cases i with
 | put s p r row =>
  refine v8 d (g.own s) λe c=>.inl (Pz (λq j=>?_) c);have:=h.2.2.2 q j;exact⟨this.1,this.2.1,this.2.2.1⟩
 | cut s a b =>
  intro e c;unfold LD.res bY at c;dsimp only at c;split at c
  ·exact g.own s e c
  ·exact PN d a b _ 0 (g.own s) e (.inl c)
 | Tr s a b t =>
  intro e c;unfold LD.res lQ at c;dsimp only at c;split at c
  ·exact g.own s e c
  ·let j:=PN d a b (own f s) 0 (g.own s);rw[List.mem_append,List.mem_append]at c;rcases c with (z|z)|z
   ·exact FZ d t _ 0 (λy k=>j y (.inl k)) e (.inl z)
   ·exact j e (.inr z)
   ·exact FZ d t _ 0 (λy k=>j y (.inl k)) e (.inr z)
 | UZ t p s a b =>
  refine v8 d (g.own t) λe c=>.inl (g.Yp s h.2.2.1.1 h.2.2.1.2 e (xq (List.mem_of_mem_drop c)))
 | win t p s =>
  refine v8 d (g.own t) λe c=>.inr ?_;rw[List.mem_singleton.mp c];have:=h.2.2;unfold qR at this;lia
 | fix s=>exact λe c=>.inl (g.Yp s h.1 h.2 e c)
def LD.At.same{H b:Hp}{d:Addr}{a:LD}(s:aJ H b)(h:a.At H d):a.At b d:=by
 cases a with
 | put=>exact⟨s _ _ h.1,h.2.same s⟩
 | _=>exact s _ _ h
theorem PR(b:Y2){d g:Int}{N:Int->Prop}:∀ (c:Wp) (f:Int),(∀ e∈c,∀ x∈bf b e,N x)->∀ x∈kE b d g f c,x∈c\/N x
 | [],_,_=>λx a=>by cases a
 | e::r,f,h=>by
  intro x a;rw[kE]at a;rcases List.mem_append.mp a with z|z
  ·unfold J5 at z;split at z
   ·rw[List.mem_singleton.mp z];exact .inl (by simp)
   ·split at z
    ·cases z
    ·rcases List.mem_append.mp z with y|y
     ·exact .inr (h e (by simp) x (xq y))
     ·exact .inr (h e (by simp) x (List.mem_of_mem_drop y))
  ·rcases PR b r _ (λe a=>h e (kY _ a)) x z with y|y
   ·exact .inl (kY _ y)
   ·exact .inr y
theorem Ad(b:Y2):∀ (a:Wp),(∀ x∈a,0<=x)->aW b a=a
 | [],_=>rfl
 | x::a,h=>by rw[cz,qN b (h x (by simp)),Ad b a λy c=>h y (kY _ c)];rfl
theorem Kn(a:Y2){b c:Int}(j:b<=c):∀ (d:Wp) (f:Int),(∀ e∈d,∀ x∈bf a e,0<=x)->↑(aW a (kE a b c f d))<=↑(aW a d)
 | [],_,_=>by simp[kE]
 | e::r,f,h=>by
  rw[kE,jK,cz,dh,dh];let g:=Kn a j r (f+↑(bf a e)) (λe g=>h e (kY _ g))
  let g:↑(aW a (J5 a b c f e))<=↑(bf a e):=by
   unfold J5;split
   ·rw[cz];simp[aW]
   ·split
    ·simp[aW]
    ·rename_i g i;let i:=h e (by simp);rw[jK,Ad a _ λx g=>i x (xq g),Ad a _ λx g=>i x (List.mem_of_mem_drop g),dh,gm,l9];lia
  lia
theorem U0(a:Y2){b d:Int}(j:b<d):∀ (i:Wp) (f:Int),f<=b->b<f+↑(aW a i)->tE a b d f i≠[]
 | [],f,h,g=>by simp[aW]at g;lia
 | e::r,f,h,g=>by
  rw[cz,dh]at g;rw[tE];intro z;let⟨c,k⟩:=List.append_eq_nil_iff.mp z;by_cases g:f+↑(bf a e)<=b
  ·exact U0 a j r (f+↑(bf a e)) g ∅ k
  ·unfold MP at c;rw[if_neg (λy=>y.elim g ∅)]at c;split at c
   ·cases c
   ·rename_i g;let q:=congrArg List.length c;rw[l9,gm,pR]at q;lia
theorem F0{b c:Y2}(p:Int):∀ (a:Wp) (f:Int),(∀ e∈a,bf b e=bf c e)->aE b p f a=aE c p f a
 | [],_,_=>rfl
 | e::r,f,h=>by rw[aE,aE,h e (by simp),F0 p r _ λx d=>h x (kY _ d)]
theorem F1{b c:Y2}(p:Int):∀ (a:Wp) (f:Int),(∀ e∈a,bf b e=bf c e)->bE b p f a=bE c p f a
 | [],_,_=>rfl
 | e::r,f,h=>by rw[bE,bE,h e (by simp),F1 p r _ λx d=>h x (kY _ d)]
theorem F2{a b:Y2}:∀ (d:Wp),(∀ y∈eU d,↑(b y)<=↑(a y))->↑(aW b d)<=↑(aW a d)
 | [],_=>by simp[aW]
 | e::r,h=>by
  rw[cz,cz,dh,dh]
  let c:=F2 (a:=a) (b:=b) r λy c=>h y (by
   let⟨f,g⟩:=cH.mp c
   exact cH.mpr ⟨f,kY _ g⟩)
  let c:↑(bf b e)<=↑(bf a e):=by
   unfold bf;by_cases c:e<0
   ·rw[if_pos c,if_pos c];exact h _ (cH.mpr ⟨by lia,by rw[show -1-(-1-e)=e by lia];simp⟩)
   ·rw[if_neg c,if_neg c];exact fH _
  lia
structure km(rows:dB)(sh:Y2)(rk:Int->Nat)(s a b:Int)(es:Wp)(rs:dB)(sg:Y2):Prop where
 snd:gT rs
 nx:∀ x y,jS rs x y->jS rows x y
 OR:mJ rs sg
 bd:∀ x:Int,0<=x->x<↑rs->↑(sg x)<=10000
 eq:∀ n,rk n<rk s->0<=n->n<↑rows->sg n=sh n
def PU{c:dB}{d:Y2}{e:Int->Nat}{s h i:Int}{a:Wp}(l:gT c)(J:∀ x,e x<=40)(q:∀ x y,jS c x y->e y<e x)(C:mJ c d)(N:∀ x:Int,0<=x->x<↑c->↑(d x)<=10000)(O:0<=s)(h1:s<↑c)(m:c[s.toNat]?=⇑a)(T:h<=i):∃ o,km c d e s h i a (c.set s.toNat (bY d h i a)) o:=by
 let R:=nX l ⟨e,J,q⟩ C
 let L:∀ p∈a,∀ x∈bf d p,0<=x:=λp j x f=>by
  unfold bf at f;by_cases k:p<0
  ·rw[if_pos k]at f;let r:jS c s (-1-p):=⟨O,a,m,cH.mpr ⟨by lia,by rw[show -1-(-1-p)=p by lia];exact j⟩⟩;let⟨D,F⟩:=l.DZ r;exact R _ D F x f
  ·rw[if_neg k]at f;rw[List.mem_singleton.mp f];lia
 let t:∀ y∈eU (bY d h i a),y∈eU a:=λy b=>by
  let⟨g,j⟩:=cH.mp b;refine cH.mpr ⟨g,?_⟩;unfold bY at j;split at j
  ·exact j
  ·rcases PR d a 0 L _ j with z|z
   ·exact z
   ·lia
 let r:∀ x y,jS (c.set s.toNat (bY d h i a)) x y->jS c x y:=by
  rintro x y ⟨g,G,f,b⟩;by_cases k:x.toNat=s.toNat
  ·rw[k,List.getElem?_set,if_pos rfl]at f;split at f
   ·cases f;exact⟨g,a,by rw[k];exact m,t y b⟩
   ·cases f
  ·rw[List.getElem?_set_ne (λz=>k z.symm)]at f;exact⟨g,G,f,b⟩
 let S:gT (c.set s.toNat (bY d h i a)):=λG j y b=>by
  rw[List.length_set];rcases List.mem_or_eq_of_mem_set j with z|z
  ·exact l G z y b
  ·subst z;exact l a (lK m) y (t y b)
 let⟨o,H⟩:=zZ (a:=c.set s.toNat (bY d h i a)) ⟨e,J,λx y u=>q x y (r x y u)⟩
 let U:(c.set s.toNat (bY d h i a))[s.toNat]?=⇑(bY d h i a):=by
  rw[List.getElem?_set,if_pos rfl,if_pos ∅]
 let M:∀ (v:Nat) (x:Int),e x<v->0<=x->x<↑c->(e x<e s->o x=d x)/\↑(o x)<=↑(d x):=by
  intro v
  induction v with
  | zero=>intro x u;lia
  | succ v I =>
   intro x f g w;by_cases k:x.toNat=s.toNat
   ·let W:x=s:=by lia
    subst W;refine⟨λz=>by lia,?_⟩;let A:=H x _ g U
    let B:aW o (bY d h i a)=aW d (bY d h i a):=qx λy b=>by
     let n:=q x y ⟨g,a,m,t y b⟩;let⟨D,F⟩:=l.DZ ⟨g,a,m,t y b⟩;exact (I y ∅ D F).1 n
    rw[A,B,C x a g m];unfold bY;split
    ·exact fH _
    ·exact Kn d T a 0 L
   ·let f:c[x.toNat]?=⇑c[x.toNat]:=mS ∅;let A:=H x _ g (by rw[List.getElem?_set_ne (λz=>k z.symm)];exact f);let B:=C x _ g f
    let low:∀ y∈eU c[x.toNat],e y<e x/\0<=y/\y<↑c:=λy b=>by
     let n:jS c x y:=⟨g,_,f,b⟩;exact⟨q x y n,l.DZ n⟩
    refine⟨λz=>?_,?_⟩
    ·rw[A,B];exact qx λy b=>(I y (by have:=(low y b).1;lia) (low y b).2.1 (low y b).2.2).1 (by have:=(low y b).1;lia)
    ·rw[A,B];exact F2 _ λy b=>(I y (by have:=(low y b).1;lia) (low y b).2.1 (low y b).2.2).2
 refine⟨o,S,r,H,λx g w=>?_,λn u b f=>(M (e n+1) n (Nat.lt_succ_self _) b f).1 u⟩;rw[List.length_set]at w;have:=(M (e x+1) x (Nat.lt_succ_self _) g w).2;have:=N x g w;lia
def Tu{e:dB}{a j:Y2}{g:Int->Nat}{s c d h:Int}{b:Wp}(p:gT e)(B:∀ x,g x<=40)(q:∀ x y,jS e x y->g y<g x)(r:mJ e a)(m:0<=s)(t:e[s.toNat]?=⇑b)(u:0<=c)(C:c<=d)(D:d<=↑(a s))(n:km e a g s c d b (e.set s.toNat (bY a c d b)) j)(v:(e.set s.toNat (bY a c d b))[s.toNat]?=⇑(bY a c d b)):gi j h (bY a c d b) (iP a c d b)=lQ a c d h b:=by
 unfold lQ;by_cases f:c=d
 ·let k:iP a c d b=[]:=by unfold iP;rw[if_pos f]
  let l:bY a c d b=b:=by unfold bY;rw[if_pos f]
  rw[if_pos f,k,l];rfl
 ·rw[if_neg f];let k:iP a c d b=tE a c d 0 b:=by unfold iP;rw[if_neg f]
  let l:bY a c d b=kE a c d 0 b:=by unfold bY;rw[if_neg f]
  let w:tE a c d 0 b≠[]:=U0 a ∅ b 0 u (by rw[← r s b m t];lia)
  let o:∀ f∈bY a c d b,bf j f=bf a f:=λf z=>by
   unfold bf;by_cases i:f<0
   ·rw[if_pos i,if_pos i];let A:jS (e.set s.toNat (bY a c d b)) s (-1-f):=⟨m,_,v,cH.mpr ⟨by lia,by rw[show -1-(-1-f)=f by lia];exact z⟩⟩;let f:=n.nx _ _ A;let⟨z,A⟩:=p.DZ f;exact n.eq _ (q _ _ f) z A
   ·rw[if_neg i,if_neg i]
  unfold gi;rw[k,if_neg w,F0 h _ 0 o,F1 h _ 0 o,l]
def Ms{c:Cx}(j:c.calm=true):jQ c (.builtin "max") (λa H Q=>∃ (p:Addr) (b:Wp),a=[↥p]/\bL c.K H p (b.map V.int)/\0<↑b/\∀ M,M∈b->(∀ e∈b,e<=M)->Q (.int M) H):=by
 intro l s x H a y Q I r h;let⟨p,b,rfl,f,k,q⟩:=h;let⟨u,rfl,g⟩:=r.one;cases (show u=Value.ref p from g);let⟨g,h,l,r⟩:=I.list f;let f:PyProof.Rows.IntsAre g b:=intsAre_of h;let⟨a,g⟩:=f.allInts.items;let h:=l.isList
 let d:b=a.toList.map (·.1):=by
  rw[← f.numsOf,← PySem.nums_intItems,← g]
 let l:0<a.size:=by
  let f:=k;rw[d,cC,Array.length_toList]at f;exact f
 rw[g]at h;refine PySem.max_intList (I.ok.hd j) h l λf g h m n=>?_;let⟨t,rfl⟩:=PySem.intItems_at m;let⟨f,o⟩:=PySem.argBest_gt (PySem.numAt a) (a.size-1);refine⟨.int _,H,I.kept n,⟨t,1⟩,q _ ?_ λe i=>?_⟩
 ·rw[d,PySem.numAt_eq];exact PySem.getD_mem (by rw[cC,Array.length_toList];lia)
 ·rw[d]at i;let⟨v,w,rfl⟩:=PySem.mem_getD i;rw[cC,Array.length_toList]at w;rw[← PySem.numAt_eq];exact o v ∅
class inductive PV
 | mk (d:Y1) (r:Addr) (a:dB) (s:Int) (_:vs=[↥r,.int s]) (_:iM d H r a) (_:↑a<=40) (_:∀ e∈a,↑e<=100000) (_:gT a) (_:0<=s) (_:s<↑a) (_:¬ Reach (jS a) s s->∀ x,¬ Reach (jS a) x x) (_:∀ (b:Bool) (c:Hp),aJ H c->(b=true->CO a/\∃ f,Weighs a f/\∀ x:Int,0<=x->x<↑a->f x<=200)->Q (.bl b) c)
theorem F3:‹(43,94,["_law_rows","_law_sheet"],PV)›:=λD=>by
 specialize fm ["_law_rows","_law_sheet"] D.ji.F;let⟨n,r,c,s,rfl,R,x,g,d,s0,p,y,o⟩:=h;refine⟨_,#v[bO (aV vh (pv 1) (aC D.i' (Ab D) hr #[0,1]) rfl) #v[aM nF] bg,aM (jw gC (bU (Ms rfl) rfl D.T.zw PyProof.Rows.boot_max #[gS (N:=["_law_other","_law_rows"]) (kG (c:=cB sE) (f:=["_law_rows","_law_sheet"]) (d:=[none,some 0]) rfl rfl rfl nofun nofun rfl nofun rfl nofun) rfl (iA rfl D.T.iX #[gg D.T.eV (pv 0)]) (λ_ _ _ _ _ _=>(bX 0)) (λ_ _ _ _ _ _=>gQ) (λ_ _ _ _ _ _=>(aC D.WI (qy D 41) hr #[1,0]))]) az (bh _))],?_⟩
 all_goals try dsimp only[aS,aH]
 refine⟨Y,Y,Y,n,r,c,s,1,R,by lia,g,d,s0,p,λL g p B e C=>?_⟩;exists g,Y,.inl (bL.of B),1,nO L,Y;rw[uv];by_cases g:s∈L
 ·rw[decide_eq_true g];exact iF (o false p e λz=>nomatch z)
 rw[decide_eq_false g];refine gp ?_;let j:=Xy d x (y λz=>g ((C s).mpr z));let⟨f,q⟩:=LN j;let⟨F,G,I⟩:=id j;let t:=R.same e;let⟨vs,g,x⟩:=id t;let y:=x.len;let v:∀ i:Nat,↑((List.range i).map λb:Nat=>f (b:Int))=i:=λi=>by rw[cC,List.length_range]
 refine⟨Y,r,Y,.inl (bL.of g),Y,by lia,by lia,λk w=>qo (lo:=0) (k:=((↑vs:Nat):Int).toNat) (λi l a=>∃ u:Option V,l=[u,⇑↥r]/\a k=⇑(.lst (((List.range i).map λb:Nat=>f (b:Int)).map V.int))/\aJ p a) ⟨none,1,af,ao w _⟩ ?_ ?_⟩
 ·rintro i l a z ⟨u,rfl,m,b⟩;let g:i<↑c:=by lia
  refine⟨Y,Y,n,r,c,0+(i:Int),f,F,1,t.same b,by lia,d,by lia,by lia,q,I,by have:=G (0+(i:Int));lia,_,m,(by rw[cC,v];exact aN ∅),Y,?_,bP w b (aG k _ _)⟩;rw[af,List.range_succ,gP,gP,Int.zero_add];rfl
 ·rintro l a ⟨u,rfl,m,b⟩;refine⟨k,Y,bL.of m,by rw[v];lia,λM _ c=>⟨Z,?_⟩⟩;refine o _ a (e.trans b) λz=>⟨j,f,q,λx a b=>?_⟩;have y:=c (f x) (List.mem_map.mpr ⟨x.toNat,List.mem_range.mpr ∅,by rw[show ((x.toNat:Nat):Int)=x by lia]⟩);have:=of_decide_eq_true z;lia
def cK{a b:Str}(h:a≠b){A B:Prop}(z:B):if decide (V.str a=V.str b)=true then A else B:=by
 rw[if_neg λy=>h (V.str.inj (of_decide_eq_true y))];exact z
def jg{a:Str}{A B:Prop}(z:A):if decide (V.str a=V.str a)=true then A else B:=by
 rw[if_pos (decide_eq_true rfl)];exact z
def Kd.at_{W:Y1}{H:Hp}{a:Addr}{b:dB}(h:Kd W f g H a b):iM (λ_=>False) H a b:=by
 let⟨_,_,_,c,d,e⟩:=h;exact⟨c,d,e.mono λv i ⟨c,e,Q,d⟩=>⟨c,e,λz=>z,d⟩⟩
def jM{a:dB}{s:Int}(h:qR ↑a s):a[s.toNat]?=⇑(own a s):=by
 have:s.toNat<↑a:=by have:=h.1;have:=h.2;lia
 unfold own;rw[mS this];rfl
class inductive Ko
 | mk (W:Y1) (w e:Addr) (f:gG) (g:gZ) (a:dB) (n:Nat) (b:Y2) (c:LD) (_:vs=[↥w,↥e]) (_:Wo 100 aO W H w f g a) (_:c.At H e) (_:Gd n a b) (_:c.Ok n ↑a b) (_:n<=10000) (_:∀ (o:Addr) (d:Hp),d o=⇑(.lst ((c.res b a).map V.int))->↑(c.res b a)<=100000->aJ H d->H o=none->Q ↥o d)
theorem DB:‹(45,95,["_law_world_here","_law_deed_here"],Ko)›:=λD=>by
 let B:bq c9 bu bZ cW cU cR 44 _ _ ["_law_rows","_law_sheet","_law_place","_law_new"] (Il 41):=Im D;let Cq:bq c9 bu bZ cW cU cR 44 _ _ ["_law_rows","_law_sheet","_law_start","_law_stop"] (PJ 41):=Io D;specialize fm ["_law_world_here","_law_deed_here","_law_rows","_law_name","_law_kept","_law_taken"] D.jl.F;let⟨W,bu,d,aF,pq,f,am,i,dd,rfl,wo,e,g,p,ap,y⟩:=h;let hu:=gR hr;exists _,#v[aX 2 (gu hu (pv 0) bw),aX 3 (aP aZ (pv 1) az),bO (aV eE (pv 3) bw (bh _)) #v[aM (aC D.OF B hr #[2,aP aZ (pv 1) az,aP aZ (pv 1) az,aC D.i5 (Dv D) hr #[aP aZ (pv 1) az]])] bg,bO (aV eE (pv 3) bw (bh _)) #v[aM (aP aZ (aC D.WH Cq hr #[2,aP aZ (pv 1) az,aP aZ (pv 1) az,aP aZ (pv 1) az]) az)] bg,bO (aV eE (pv 3) bw (bh _)) #v[ng (aC D.WH Cq hr #[2,aP aZ (pv 1) az,aP aZ (pv 1) az,aP aZ (pv 1) az]) (lg (n:=2) rfl (bS (bX 4) (bS (bX 5) gB))),aM (aC D.OF B hr #[aC D.WE (xh D) hr #[2,aP aZ (pv 1) az,4],aP aZ (pv 1) az,aP aZ (pv 1) az,5])] bg,bO (aV eE (pv 3) bw (bh _)) #v[aM (aC D.OF B hr #[2,aP aZ (pv 1) az,aP aZ (pv 1) az,gD jy (aC D.E7 (iR D 41) hr #[2,aP aZ (pv 1) az]) (gj (aP aZ (pv 1) az)) (gj (aP aZ (pv 1) az))])] bg,bO (aV eE (pv 3) bw (bh _)) #v[aM (aC D.OF B hr #[2,aP aZ (pv 1) az,aP aZ (pv 1) az,bJ #[bx dD (ig fF az) (aP aZ (pv 1) az)]])] bg,bO (aV eE (pv 3) bw (bh _)) #v[aM (aC D.E7 (iR D 41) hr #[2,aP aZ (pv 1) az])] bg,aM (aP bH (aP bH (gu hu (pv 0) bw) (aP aZ (pv 1) az)) (aP aZ (pv 1) az))]
 all_goals try dsimp only[aS,aH]
 let⟨ik,w,ps,vl,B⟩:=id wo;let zr:=gW.k (k:=kR) B.hw;rw[show cI (kX ik w ps vl) kR=⇑↥w by kernel_rfl]at zr;let R:=B.hr.at_;let⟨x,C,t⟩:=g.sn.rk;let B:=g.ln;let F:↑f<=1000:=by lia
 let L:∀ s,x s<=41:=λs=>by have:=C s;lia
 let ae:∀ m∈f,↑m<=25000:=λm G=>by have:=g.es m G;lia
 exists Y,bu,Y,zr
 let S:∀ {s u:Int} {B:Wp} {q o:Addr} {k:Hp} {Q:VK} {E:XK},qR ↑f s->iM (λ_=>False) k q f->k o=⇑(.lst (B.map V.int))->↑B<=25000->aJ H k->(∀ (o:Addr) (c:Hp),c o=⇑(.lst ((gi i u (own f s) B).map V.int))->↑(gi i u (own f s) B)<=100000->aJ H c->H o=none->Q ↥o c)->Il 41 [↥q,.int s,.int u,↥o] k Q E:=by
  intro s u B q o k Q E c r I J j N;refine⟨_,q,o,f,s,u,B,i,x,1,r,F,ae,g.sn.sd,g.sn.ss,g.sn.ln,t,c.1,c.2,L s,I,J,λm O M v z n l T=>?_⟩;rw[jM c]at v;cases v;exact N O M z n (j.trans l) (aU j T)
 cases dd with
 | put s u l row =>
  let⟨e,z⟩:=e;let⟨c,U,n,r⟩:=p;exists Y,d,Q,V,dO.of e,sS;refine⟨Y,1,Y,jg ?_⟩;let n:=FQ (k:=40) (a:=row) λq h=>by have:=r q h;lia
  refine⟨Y,Y,d,Q,V,dO.of e,uA,Y,d,Q,V,dO.of e,AH,Y,d,Q,V,dO.of e,AI,l,row,1,z,λq h=>by have:=r q h;lia,by lia,by lia,λJ k v j N=>?_⟩;exact S c (R.same j) v ∅ j y
 | cut s a b =>
  let⟨c,n⟩:=p;exists Y,d,Q,V,dO.of e,sS;refine⟨Y,1,Y,cK nofun ⟨Y,1,Y,jg ?_⟩⟩;refine⟨Y,Y,d,Q,V,dO.of e,uA,Y,d,Q,V,dO.of e,AH,Y,d,Q,V,dO.of e,AI,_,w,f,s,a,b,i,x,1,R,F,(λm G=>by have:=g.es m G;lia),g.sn.sd,g.sn.ss,g.sn.ln,t,c.1,c.2,L s,n.2.1,λm T N ag k v U X hM j fL fM ak=>?_⟩;rw[jM c]at v;cases v;refine⟨T,Q,V,dO.of U,sS,y N k X ?_ j fL⟩;let B:=tF i a b (own f s);let O:=g.sl s c.1 c.2;rw[g.sn.ss s _ c.1 (jM c)]at O;have:=g.es _ (lK (jM c));show ↑(bY i a b (own f s))<=_;lia
 | Tr s a b ab =>
  let⟨c,mv⟩:=p;let n:=mv.1;let lo:=g.es _ (lK (jM c));let am:=g.sn.ss s _ c.1 (jM c);let O:=g.sl s c.1 c.2;rw[am]at O;let B:=tF i a b (own f s);let B:=Ac i a b (own f s);exists Y,d,Q,V,dO.of e,sS;refine⟨Y,1,Y,cK nofun ⟨Y,1,Y,cK nofun ⟨Y,1,Y,jg ?_⟩⟩⟩;refine⟨Y,Y,d,Q,V,dO.of e,uA,Y,d,Q,V,dO.of e,AH,Y,d,Q,V,dO.of e,AI,_,w,f,s,a,b,i,x,1,R,F,(λm G=>by have:=g.es m G;lia),g.sn.sd,g.sn.ss,g.sn.ln,t,c.1,c.2,L s,n.2.1,λm T N ag k v U X hM j fL fM ak=>?_⟩;rw[jM c]at v;cases v;let⟨vs,an,al⟩:=R.same j;let v:=al.len;let v:=c.1;let v:=c.2;let I:=j _ _ e;exists T,Y,dO.of U,1,E,1,Z;refine⟨Y,Y,d,Q,V,dO.of I,uA,Y,w,N,s.toNat,vs,(by rw[show ((s.toNat:Nat):Int)=s by lia];rfl),an,by lia,by lia,λq M r l v=>?_⟩;let ai:=l _ _ I;let⟨sg,J⟩:=PU (h:=a) (i:=b) g.sn.sd C t g.sn.ss g.sn.ln c.1 c.2 (jM c) n.2.1
  let Tt:(f.set s.toNat (bY i a b (own f s)))[s.toNat]?=⇑(bY i a b (own f s)):=by
   rw[List.getElem?_set,if_pos rfl,if_pos ∅]
  let R2:iM (λ_=>False) M q (f.set s.toNat (bY i a b (own f s))):=⟨_,r,cG.set _ (al.mono λv m z=>gf.same l z) ⟨N,1,λz=>z,l _ _ X⟩⟩
  refine⟨Y,d,Q,V,dO.of ai,uA,Y,d,Q,V,dO.of ai,RX,Y,_,q,ag,_,s,ab,iP i a b (own f s),sg,x,1,R2,by rw[List.length_set];lia,(λuT hm=>by
   rcases List.mem_or_eq_of_mem_set hm with z|z
   ·exact ae uT z
   ·rw[z];lia),J.snd,J.OR,J.bd,(λm v h=>t m v (J.nx m v h)),c.1,by rw[List.length_set];exact c.2,L s,l _ _ hM,by lia,λuT o H3 JM h3 l3 s3 f3=>?_⟩
  rw[Tt]at JM;cases JM;rw[Tu g.sn.sd C t g.sn.ss c.1 (jM c) n.1 n.2.1 n.2.2 J Tt]at h3 l3;exact y o H3 h3 l3 (j.trans (l.trans s3)) (aU (j.trans l) f3)
 | UZ ab u s a b =>
  let⟨T,U,c,n⟩:=p;exists Y,d,Q,V,dO.of e,sS;refine⟨Y,1,Y,cK nofun ⟨Y,1,Y,cK nofun ⟨Y,1,Y,cK nofun ⟨Y,1,Y,jg ?_⟩⟩⟩⟩;let O:=g.sl s c.1 c.2;refine⟨Y,Y,d,Q,V,dO.of e,uA,Y,d,Q,V,dO.of e,AH,Y,Y,d,Q,V,dO.of e,AI,_,w,f,s,i,x,1,R,F,g.sn.sd,c.1,c.2,g.sn.ss,g.sn.ln,t,by have:=C s;lia,λJ k v j N=>?_⟩;let I:=j _ _ e;refine⟨Y,d,Q,V,dO.of I,RX,Y,Y,d,Q,V,dO.of I,ZM,Y,J,Y,bL.of v,λq r=>?_⟩;let l:=ao r (.lst (ir ((i s).map V.int) (⇑a) (⇑b)));let z:(aL k q (.lst (ir ((i s).map V.int) (⇑a) (⇑b)))) q=⇑(.lst ((((i s).take b.toNat).drop a.toNat).map V.int)):=by rw[af,FF _ n.1 (by have:=n.1;have:=n.2.1;lia),List.map_drop,List.map_take]
  generalize aL k q (.lst (ir ((i s).map V.int) (⇑a) (⇑b)))=M at l z;exact S T (R.same (j.trans l)) z (by rw[l9,gm];lia) (j.trans l) y
 | win ab u s =>
  let⟨T,U,c⟩:=p;exists Y,d,Q,V,dO.of e,sS;refine⟨Y,1,Y,cK nofun ⟨Y,1,Y,cK nofun ⟨Y,1,Y,cK nofun ⟨Y,1,Y,cK nofun ⟨Y,1,Y,jg ?_⟩⟩⟩⟩⟩;refine⟨Y,Y,d,Q,V,dO.of e,uA,Y,d,Q,V,dO.of e,AH,Y,Y,d,Q,V,dO.of e,AI,Z,kH,λq r=>?_⟩;exact S T (R.same (ao r _)) af (by show 1<=25000;decide) (ao r _) y
 | fix s =>
  exists Y,d,Q,V,dO.of e,sS;refine⟨Y,1,Y,cK nofun ⟨Y,1,Y,cK nofun ⟨Y,1,Y,cK nofun ⟨Y,1,Y,cK nofun ⟨Y,1,Y,cK nofun ⟨Y,1,Y,jg ?_⟩⟩⟩⟩⟩⟩;exact⟨Y,Y,d,Q,V,dO.of e,uA,_,w,f,s,i,x,1,R,F,g.sn.sd,p.1,p.2,g.sn.ss,g.sn.ln,t,by have:=C s;lia,λJ k v j N=>y J k v (by have:=g.sl s p.1 p.2;show ↑(i s)<=_;lia) j N⟩
theorem PY{n:Nat}{a:Row}(h:∀ z∈a,0<=z.1/\z.1<z.2/\z.2<=(n:Nat)):oK n a=true:=List.all_eq_true.mpr λq b=>by
 have:=h q b;unfold MQ;simp only[Bool.and_eq_true,decide_eq_true_eq];lia
def Tv:Sp:=λ_ _ _ _=>False
theorem PZ{k:Nat}{f:Addr}{a:UV}:bq P w K mg zt cR k f c a Tv:=⟨λb H Q E h=>h.elim,λA d s H args e b Q E _ _ _ _ h=>h.elim⟩
def kr{i:Int}(a:0<=i)(b:i<=20000):uV i:=by
 let c:(20000:Int)<10^60:=by decide
 exact⟨by lia,by lia⟩
class inductive P0(C CS CW CB:Addr)
 | mk (U:Y1) (x h:Addr) (d:gZ) (f:iD) (c:gG) (i:Nat) (j:Row) (a:dB) (e:Y2) (b:LD) (_:vs=[↥x,↥h]) (_:nB C CS CW CB U H x d f c i j) (_:d.getLast?=⇑a) (_:↑d<=900) (_:↑f<=900) (_:↑c<=10000) (_:b.At H h) (_:Gd ↑c a e) (_:b.Ok ↑c ↑a e) (_:∃ m,mR (i6 a b.sh.toNat (b.res e a)) m) (_:∀ (k:Y1) (g:Hp) (l:iD),↑l=↑f+1->nB C CS CW CB k g x (d++[i6 a b.sh.toNat (b.res e a)]) l c i j->uY U k H g->Q .gc g)
theorem F4:‹(7,97,["_law_house","_law_deed_here"],(P0 fj cO dc d9))›:=λD=>by
 let AZ:bq c9 bu bZ cW cU cR 4 (d7 65) (d8 65) ["self","hand","text"] Tv:=PZ;let Ae:bq c9 bu bZ cW cU cR 4 (d7 62) (d8 62) ["self"] Tv:=PZ;let A0:bq c9 bu bZ cW cU cR 4 (d7 96) (d8 96) ["self","sheet","moment"] Tv:=PZ;specialize fm ["_law_house","_law_deed_here","_law_name"] D.jp.F;let⟨U,x,d,B,q,t,C,F,n,u,dd,rfl,v,G,I,J,l4,c,X,w,L,M⟩:=h;exists _,#v[aX 2 (aP aZ (pv 1) az),bO (aV eE (pv 2) bw (bh _)) #v[aM (cV (pv 0) D.aR D.WB AZ hr bR #[aP aZ (pv 1) az,aP aZ (pv 1) az])] bg,bO (aV eE (pv 2) bw (bh _)) #v[aM (gO (pv 0) D.aR D.Wz Ae hr bR)] bg,bO (aV eE (pv 2) bw (bh _)) #v[aM (cV (pv 0) D.aR D.hZ (zR D) hr bR #[aP aZ (pv 1) az,aP aZ (pv 1) az,fZ ie rfl D.T.jI tM #[aP aZ (pv 1) az]])] bg,bO (aV eE (pv 2) bw (bh _)) #v[aM (cV (pv 0) D.aR D.h8 (zS D) hr bR #[aP aZ (pv 1) az,aP aZ (pv 1) az,aP aZ (pv 1) az])] bg,bO (aV eE (pv 2) bw (bh _)) #v[aM (cV (pv 0) D.aR D.ii (xF D) hr bR #[aP aZ (pv 1) az,aP aZ (pv 1) az,aP aZ (pv 1) az,aP aZ (pv 1) az])] bg,bO (aV eE (pv 2) bw (bh _)) #v[aM (cV (pv 0) D.aR D.h9 (vW D) hr bR #[aP aZ (pv 1) az,aP aZ (pv 1) az,aP aZ (pv 1) az,aP aZ (pv 1) az,aP aZ (pv 1) az])] bg,bO (aV eE (pv 2) bw (bh _)) #v[aM (cV (pv 0) D.aR D.ia (uP D) hr bR #[aP aZ (pv 1) az,aP aZ (pv 1) az,aP aZ (pv 1) az])] bg,bO (aV eE (pv 2) bw (bh _)) #v[aM (cV (pv 0) D.aR D.ih (zT D) hr bR #[aP aZ (pv 1) az])] bg,aM (cV (pv 0) D.aR D.oD A0 hr bR #[aP aZ (pv 1) az,aP aZ (pv 1) az])]
 all_goals try dsimp only[aS,aH]
 let ab:=X.ln;let N:↑n<=50:=by lia
 let O:=X.sn;let R:∀ {ab:List Nat},↑(q++[ab])=↑q+1:=λ{ab}=>by rw[dh];rfl
 let r:∀ {s:Int},qR ↑n s->uV s:=λz=>kr z.1 (by have:=z.2;lia);have y:∀ {s p:Int},qR ↑n s->0<=p->p<=↑(u s)->uV p:=λz p0 p1=>kr p0 (by have:=X.sl _ z.1 z.2;lia);let⟨S',UQ,S,WS,ab,ae,ag,ai,ak,am,Bf,Ej,an,ap,aq,ar,au,av,FJ,LU⟩:=id v;have T:=LU.L.hx
 cases dd with
 | put s p ab row =>
  let⟨c,PX⟩:=c;let⟨e,i,r2,hq⟩:=w;let hh:=PY (n:=↑t) (a:=row) λz h=>by have:=hq z h;exact⟨this.1,this.2.1,this.2.2.1⟩
  let⟨o,ha,pa⟩:=id PX;exists Y,d,Q,V,dO.of c,sS;refine⟨Y,1,Y,cK nofun ⟨Y,1,Y,cK nofun ⟨Y,1,Y,jg ?_⟩⟩⟩;refine⟨Y,x,S,Y,T,1,Y,d,Q,V,dO.of c,uA,Y,d,Q,V,dO.of c,AH,Y,d,Q,V,dO.of c,AI,ab,Y,.inl (bL.of ha),λf Vu=>?_⟩;let W:=ao Vu (.lst (o.map V.ref));let Ls:bV (aL H f (.lst (o.map V.ref))) f row:=⟨o,af,pa.same W⟩;generalize aL H f (.lst (o.map V.ref))=o at W Ls;refine⟨U,x,f,B,q,t,C,F,row,s,p,n,1,v.same W,Ls,⟨by lia,λz h=>by have:=hq z h;exact⟨⟨by lia,by lia⟩,⟨by lia,by lia⟩⟩⟩,by lia,G,N,I,J,r e,y e i.1 i.2,e,hh,⟨u,O,i,λes g=>?_⟩⟩;rw[jM e]at g;cases g
  let o:dQ (cX (cD row))=bC row:=by
   rw[nV,kC _ λf h=>by have:=hq f h;lia]
  rw[o];exact⟨L,λj k l m=>M j k _ R l (m.pre W)⟩
 | cut s a b =>
  let⟨e,f⟩:=w;exists Y,d,Q,V,dO.of c,sS;refine⟨Y,1,Y,cK nofun ⟨Y,1,Y,cK nofun ⟨Y,1,Y,cK nofun ⟨Y,1,Y,jg ?_⟩⟩⟩⟩;refine⟨Y,x,S,Y,T,1,Y,d,Q,V,dO.of c,uA,Y,d,Q,V,dO.of c,AH,Y,d,Q,V,dO.of c,AI,U,x,B,q,t,C,F,s,a,b,n,1,v,G,N,I,J,r e,y e f.1 (by have:=f.2.1;have:=f.2.2;lia),y e (by have:=f.2.1;have:=f.1;lia) f.2.2,e,⟨u,O,f,λes g=>?_⟩⟩;rw[jM e]at g;cases g;exact⟨L,λj k l m=>M j k _ R l m⟩
 | Tr s a b W =>
  let⟨e,i⟩:=w;let f:=i.1;let o:=f.1;let o:=f.2.1;let o:=f.2.2;let o:=i.2;let o:=X.sl s e.1 e.2;exists Y,d,Q,V,dO.of c,sS;refine⟨Y,1,Y,cK nofun ⟨Y,1,Y,cK nofun ⟨Y,1,Y,cK nofun ⟨Y,1,Y,cK nofun ⟨Y,1,Y,jg ?_⟩⟩⟩⟩⟩;refine⟨Y,x,S,Y,T,1,Y,d,Q,V,dO.of c,uA,Y,d,Q,V,dO.of c,AH,Y,d,Q,V,dO.of c,AI,Y,d,Q,V,dO.of c,RX,U,x,B,q,t,C,F,s,a,b,W,n,1,v,G,N,I,J,r e,⟨by lia,by lia⟩,⟨by lia,by lia⟩,⟨by lia,by lia⟩,e,⟨u,O,i,λes g=>?_⟩⟩;rw[jM e]at g;cases g;exact⟨L,λj k l m=>M j k _ R l m⟩
 | UZ W p s a b =>
  let⟨o,i,e,f⟩:=w;exists Y,d,Q,V,dO.of c,sS;refine⟨Y,1,Y,cK nofun ⟨Y,1,Y,cK nofun ⟨Y,1,Y,cK nofun ⟨Y,1,Y,cK nofun ⟨Y,1,Y,cK nofun ⟨Y,1,Y,jg ?_⟩⟩⟩⟩⟩⟩;refine⟨Y,x,S,Y,T,1,Y,d,Q,V,dO.of c,uA,Y,d,Q,V,dO.of c,AH,Y,d,Q,V,dO.of c,AI,Y,d,Q,V,dO.of c,RX,Y,d,Q,V,dO.of c,ZM,U,x,B,q,t,C,F,W,p,s,a,b,n,1,v,G,N,I,J,r o,y o i.1 i.2,r e,y e f.1 (by have:=f.2.1;have:=f.2.2;lia),y e (by have:=f.2.1;have:=f.1;lia) f.2.2,o,e,⟨u,O,f,⟨i,λes g=>?_⟩⟩⟩;rw[jM o]at g;cases g;exact⟨L,λj k l m=>M j k _ R l m⟩
 | win W p s =>
  let⟨o,i,e⟩:=w;exists Y,d,Q,V,dO.of c,sS;refine⟨Y,1,Y,cK nofun ⟨Y,1,Y,cK nofun ⟨Y,1,Y,cK nofun ⟨Y,1,Y,cK nofun ⟨Y,1,Y,cK nofun ⟨Y,1,Y,cK nofun ⟨Y,1,Y,jg ?_⟩⟩⟩⟩⟩⟩⟩;refine⟨Y,x,S,Y,T,1,Y,d,Q,V,dO.of c,uA,Y,d,Q,V,dO.of c,AH,Y,d,Q,V,dO.of c,AI,U,x,B,q,t,C,F,W,p,s,n,1,v,G,N,I,J,r o,y o i.1 i.2,r e,o,e,⟨u,O,i,λes g=>?_⟩⟩;rw[jM o]at g;cases g;exact⟨L,λj k l m=>M j k _ R l m⟩
 | fix s =>
  exists Y,d,Q,V,dO.of c,sS;refine⟨Y,1,Y,cK nofun ⟨Y,1,Y,cK nofun ⟨Y,1,Y,cK nofun ⟨Y,1,Y,cK nofun ⟨Y,1,Y,cK nofun ⟨Y,1,Y,cK nofun ⟨Y,1,Y,cK nofun ⟨Y,1,Y,jg ?_⟩⟩⟩⟩⟩⟩⟩⟩;refine⟨Y,x,S,Y,T,1,Y,d,Q,V,dO.of c,uA,U,x,B,q,t,C,F,s,n,1,v,G,N,I,J,r w,w,⟨u,O,L,λj k l m=>M j k _ R l m⟩⟩
class inductive P1
 | mk (l c w:Addr) (W:Y1) (d:gG) (f:gZ) (g:dB) (_:vs=[↥l,↥w]) (_:dm H l c) (_:Wo 100 aO W H w d f g) (_:(∀ a,W a->a≠l/\a≠c)) (_:↑d<=50000) (_ :
 ∀ (r:Addr) (e:Row) (b:Hp),↑e<=2->bV b r e->(∀ p∈e,0<=p.1/\p.1<p.2/\p.2<=↑d/\p.2<=p.1+40)->H r=none->dm b l c->cF l H b->Q ↥r b)
theorem qz:‹(2,98,["_law_src_here","_law_world_here"],P1)›:=λD=>by
 let m:bq c9 bu bZ cW cU cR 1 _ _ ["_law_src_here","_law_base"] sM:=fV D;specialize fm ["_law_src_here","_law_world_here","_law_many","_law_row","_law_k","_law_start","_law_span"] D.WJ.F;let⟨l,i,bu,W,b,x,rq,rfl,S,O,dw,N,ab⟩:=h;let x:=gR hr;exists _,#v[aX 2 (gg D.T.eV (gu x (pv 1) bw)),aX 3 (bJ ah),eX PassesOwn.never rfl (iA rfl D.T.iX #[bx GZ (aC D.qL m hr #[0,az]) (bU (nI rfl) rfl D.T.E2 PyProof.Rows.boot_min #[az,2])]) (bX 4) #v[aX 5 (aC D.qL m hr #[0,bU (lU rfl) rfl D.T.zw PyProof.Rows.boot_max #[az,2]]),aX 6 (bx cT az (aC D.qL m hr #[0,bU (lU rfl) rfl D.T.zw PyProof.Rows.boot_max #[az,bU (nI rfl) rfl D.T.E2 PyProof.Rows.boot_min #[aP bH (bJ #[az,az,az,az]) (aC D.qL m hr #[0,az]),bx dD (pv 2) (pv 5)]]])),aT (dX n8 jt ju bT (pv 3) #[cZ #[5,bx cT (pv 5) (pv 6)]])],aM (pv 3)]
 all_goals try dsimp only[aS,aH]
 let⟨m,rw,ps,vl,x⟩:=id O;let⟨as,zW,O⟩:=id x.hi;let la:=Paired.length O;let O:=gW.k (k:=kI) x.hw;rw[show cI (kX m rw ps vl) kI=⇑↥m by kernel_rfl]at O;exists Y,bu,Y,O,m,Y,.inl (bL.of zW);refine⟨iy,λr o=>?_⟩;let w:=ao o (.lst []);let R:(aL H r (.lst [])) r=⇑(.lst []):=af;let s:=S.ne o;let T:=S.same w;generalize aL H r (.lst [])=m at w R T;refine⟨Y,l,i,3,1,T,by decide,by decide,λU m x O S2 X=>?_⟩;rw[show ↑(as.map V.ref)=↑b by rw[cC,la]];refine⟨Y,E,1,Z,.inl ⟨by lia,by lia⟩,?_⟩
 let hm:∃ n:Nat,(U*(if (↑b:Int)<1 then (↑b:Int) else 1))=n/\n<=2/\(0<n->1<=↑b):=by
  split
  ·rename_i z;refine⟨0,?_,by lia,by lia⟩;rw[show (↑b:Int)=0 by lia];exact Int.mul_zero _
  ·exact⟨U.toNat,by rw[Int.mul_one];lia,by lia,λ_=>by lia⟩
 let⟨n,en,m,n1⟩:=hm
 let u:(if (↑b:Int) > 1 then (↑b:Int) else 1)=if 1<=↑b then (↑b:Int) else 1:=by split <;> split <;> lia
 refine⟨n,congrArg (λz=>[V.int z]) en,by lia,by lia,jW (lo:=0) (n:=((n:Nat):Int).toNat) (λm B f=>∃ (C F G:Option V) (d:Row),B=[⇑↥l,⇑↥bu,⇑(.int (↑b:Nat)),⇑↥r,C,F,G]/\bV f r d/\↑d=m/\(∀ p∈d,0<=p.1/\p.1<p.2/\p.2<=↑b/\p.2<=p.1+40)/\dm f l i/\cF l H f) ⟨none,none,none,[],1,⟨[],(X r s.1.symm).trans R,.nil⟩,1,(λp j=>nomatch j),S2,(_gI.aJ.keep w).trans (bN X)⟩ ?_ ?_⟩
 ·rintro m B f hj ⟨C,F,G,d,rfl,I,lr,j,v,J⟩;let m:1<=↑b:=n1 ∅;rw[if_pos m]at u;refine⟨Y,Y,E,1,l,i,Y,v,(by rw[u];lia),(by rw[u];lia),λa H4 a0 w m k4=>?_⟩;rw[u]at w;refine⟨Y,C2,λt u=>?_⟩;let L:=ao u (.lst [.int 4,.int 4,.int 4,.int 40]);let h5:(aL H4 t (.lst [.int 4,.int 4,.int 4,.int 40])) t=⇑(.lst [.int 4,.int 4,.int 4,.int 40]):=af;let nt:=m.ne u;let S5:=m.same L;generalize aL H4 t (.lst [.int 4,.int 4,.int 4,.int 40])=m at L h5 S5;refine⟨Y,l,i,4,1,S5,by decide,by decide,λM u m w S6 k6=>?_⟩;let⟨z,g,ez⟩:=zX (a:=[V.int 4,.int 4,.int 4,.int 40]) m (by show M<4;lia)
  obtain⟨q,rfl,m,u⟩:∃ q:Int,z=.int q/\4<=q/\q<=40:=by
   rcases List.mem_cons.mp g with y|g
   ·exact⟨4,y,by decide,by decide⟩
   rcases List.mem_cons.mp g with y|g
   ·exact⟨4,y,by decide,by decide⟩
   rcases List.mem_cons.mp g with y|g
   ·exact⟨4,y,by decide,by decide⟩
   ·exact⟨40,List.mem_singleton.mp g,by decide,by decide⟩
  exists t,Q,V,bL.of ((k6 t nt.1.symm).trans h5),ez
  let hX:∃ x:Int,(if (if (↑b:Int)-a<q then (↑b:Int)-a else q) > 1 then (if (↑b:Int)-a<q then (↑b:Int)-a else q) else 1)=x/\1<=x/\x<=↑b-a/\x<=40:=⟨Y,by split <;> split <;> lia,by split <;> split <;> lia,by split <;> split <;> lia⟩
  let⟨b,g,m,M2,q⟩:=hX;refine⟨Y,Y,Z,E,1,E,1,l,i,Y,S6,(by rw[g];lia),(by rw[g];lia),λc b i N u m=>⟨Z,?_⟩⟩;rw[g]at N;let i:cF l f b:=(((bN k4).trans (_gI.aJ.keep L)).trans (bN k6)).trans (bN m);let⟨q,t,g⟩:=I;let⟨m,w⟩:=v.lst;let m:=i _ _ t s.1.symm;let x:bG b q d:=g.tups λa z e=>i _ _ e (cS e w);have t:=Paired.length g;refine⟨Y,.inl ⟨1,_,bL.of m⟩,Y,Y,Y,Z,mT,λp t=>⟨r,Z,ao t _ _ _ m,(by rw[cC];exact aN ∅),?_⟩⟩;have g:=ao t (.tup [.int a,.int (a+(1+c))]);have t:(aL b p (.tup [.int a,.int (a+(1+c))])) p=⇑(.tup [.int a,.int (a+(1+c))]):=af;have ae:=g _ _ m;have S8:=u.same g;have K8:cF l H (aL b p (.tup [.int a,.int (a+(1+c))])):=(J.trans i).trans (_gI.aJ.keep g);have b:=bG.snoc (p:=(a,a+(1+c))) (x.same g) t;refine⟨Q,d++[(a,a+(1+c))],1,⟨q++[p],by rw[gP];exact af,b.tups λy z e=>?_⟩,by rw[dh,lr];rfl,λy k=>?_,?_,λy b e n=>?_⟩
  ·exact (aK (cS e ae)).trans e
  ·rcases List.mem_append.mp k with k|k
   ·exact j y k
   ·rw[List.mem_singleton.mp k];exact⟨a0,by show a<a+(1+c);lia,by show a+(1+c)<=_;lia,by show a+(1+c)<=a+40;lia⟩
  ·let⟨n,a,M,b,c,g,i,k⟩:=S8;exact⟨n,a,M,b,c,(aK s.1).trans g,(aK s.2).trans i,k⟩
  ·exact (aK (aA e o)).trans (K8 _ _ e n)
 rintro B f ⟨C,F,G,d,rfl,I,lr,j,v,J⟩;exact⟨Y,ab r d f ∅ I j o v J⟩
class inductive P4
 | mk (l e:Addr) (s m:Int) (_:vs=[↥l,.int s,.int m]) (_:dm H l e) (_:0<=m) (_:m<=10000) (_:∀ (a b u:Int) (t:Addr) (d:LD) (c:Hp),Mv a b u m->(d=.cut s a b\/d=.Tr s a b u)->d.At c t->dm c l e->cF l H c->Q ↥t c)
theorem Af:‹(2,99,["_law_src_here","_law_sheet","_law_room"],P4)›:=λD=>by
 let c:bq c9 bu bZ cW cU cR 1 _ _ ["_law_src_here","_law_base"] sM:=fV D;specialize fm ["_law_src_here","_law_sheet","_law_room","_law_start","_law_stop"] D.js.F;let⟨l,d,s,g,rfl,S,i,j,k⟩:=h;exists _,#v[aX 3 (aC D.qL c hr #[0,bx cT (pv 2) az]),aX 4 (bx cT (pv 3) (aC D.qL c hr #[0,bx cT (bx dD (pv 2) (pv 3)) az])),bO (aV eE (aC D.qL c hr #[0,az]) az (bh _)) #v[aM (cZ #[bw,1,3,4])] bg,aM (cZ #[bw,1,3,4,aC D.qL c hr #[0,bx cT (bx cT (bx dD (pv 2) (pv 4)) (pv 3)) az]])]
 all_goals try dsimp only[aS,aH]
 refine⟨Y,Y,Z,l,d,Y,S,by lia,by lia,λa i j o c g=>?_⟩;refine⟨Y,Y,Y,Y,Z,Z,l,d,Y,c,by lia,by lia,λv j o p c i=>⟨Z,?_⟩⟩;refine⟨Y,l,d,2,1,c,by decide,by decide,λz c _ _ e j=>⟨1,Y,?_⟩⟩;let f:cF l H c:=((bN g).trans (bN i)).trans (bN j);refine dM (λ_=>?_) (λ_=>?_)
 ·refine⟨Y,Y,Y,C2,λt b=>?_⟩;exact k a (a+v) 0 t (.cut s a (a+v)) _ ⟨⟨by lia,by lia,by lia⟩,by lia,by lia⟩ (.inl rfl) af (e.same (ao b _)) (f.trans (_gI.aJ.keep (ao b _)))
 ·refine⟨Y,Y,Y,Y,Y,Y,Z,Y,Z,Z,l,d,Y,e,by lia,by lia,λu c d e m n=>⟨Wg,λt b=>?_⟩⟩;exact k a (a+v) u t (.Tr s a (a+v) u) _ ⟨⟨by lia,by lia,by lia⟩,by lia,by lia⟩ (.inr rfl) af (m.same (ao b _)) ((f.trans (bN n)).trans (_gI.aJ.keep (ao b _)))
def LD.pC(H:Hp):LD->Prop
 | .put _ _ r _=>H r=none
 | _=>True
class inductive P5
 | mk (W:Y1) (l e w:Addr) (b:gG) (h:gZ) (c:dB) (g:Y2) (_:vs=[↥l,↥w]) (_:dm H l e) (_:Wo 100 aO W H w b h c) (_:∀ a,W a->a≠l/\a≠e) (_:Gd ↑b c g) (_:1<=↑c) (_:↑b<=10000) (_:∀ (t:Addr) (f:LD) (d:Hp),f.At d t->f.Ok ↑b ↑c g->f.pC H->dm d l e->cF l H d->Q ↥t d)
theorem F5:‹(43,100,["_law_src_here","_law_world_here"],P5)›:=λD=>by
 let b:bq c9 bu bZ cW cU cR 1 _ _ ["_law_src_here","_law_base"] sM:=fV D;specialize fm ["_law_src_here","_law_world_here","_law_rows","_law_way","_law_sheet","_law_other","_law_room","_law_place","_law_start"] D.Uw.F;let⟨W,l,i,bu,z,B,f,C,rfl,S,x,F,g,k,q,v⟩:=h;let k:=gR hr;exists _,#v[aX 2 (gu k (pv 1) bw),aX 3 (aC D.qL b hr #[0,az]),aX 4 (aC D.qL b hr #[0,gg D.T.eV (pv 2)]),aX 5 (aC D.qL b hr #[0,gg D.T.eV (pv 2)]),aX 6 (gg D.T.eV (aC D.E7 (iR D 41) hr #[2,4])),aX 7 (aC D.qL b hr #[0,bx cT (pv 6) az]),bO (aV jR (pv 3) az (bh _)) #v[aM (cZ #[bw,4,7,aC D.WJ (qz D) hr #[0,1]])] bg,bO (aV jR (pv 3) az (bh _)) #v[aM (aC D.js (Af D) hr #[0,4,6])] bg,bO (aV jR (pv 3) az (bh _)) #v[aX 6 (gg D.T.eV (aC D.E7 (iR D 41) hr #[2,5])),aX 8 (aC D.qL b hr #[0,bx cT (pv 6) az]),aM (cZ #[bw,4,7,5,8,bx cT (pv 8) (aC D.qL b hr #[0,bx cT (bx dD (pv 6) (pv 8)) az])])] bg,bO (aV jR (pv 3) az (bh _)) #v[aM (cZ #[bw,4,7,5])] bg,aM (cZ #[bw,4])]
 all_goals try dsimp only[aS,aH]
 let⟨b,j,k,U,q⟩:=id x;let M:=gW.k (k:=kR) q.hw;rw[show cI (kX b j k U) kR=⇑↥j by kernel_rfl]at M;let b:=g.ln;let⟨N,O,R⟩:=id g.sn.rk;let⟨U,X⟩:=S.lst;obtain⟨k,x⟩:∃ k,Wo 100 k W H bu z B f:=⟨_,x⟩;let kp:∀ {b:Hp},cF l H b->iM (λ_=>False) b j f/\Wo 100 k W b bu z B f:=λ{b} k=>⟨(q.hr.fr (λ_ a=>a) λc q e a _ _=>k _ _ e (F c a).1).at_,x.fr (λc ob e a=>k _ _ e (F c a).1) λc q e=>k _ _ e (cS e X)⟩
 let x:∀ {b:Hp},cF l H b->∃ q,b j=⇑(.lst q)/\↑q=↑f:=λ{b} k=>by
  let⟨q,e,a⟩:=(kp k).1;exact⟨q,e,a.len⟩
 exists Y,bu,Y,M;refine⟨Y,l,i,13,1,S,by decide,by decide,λS b X y1 q M=>?_⟩;let k:cF l H b:=bN M;let⟨M,b,S⟩:=x k;refine⟨Y,Y,j,Y,.inl (bL.of b),l,i,Y,q,by lia,by lia,λs q M b S X=>?_⟩;let b:cF l H q:=k.trans (bN X);let⟨q,k,X⟩:=x b;refine⟨Y,Y,j,Y,.inl (bL.of k),l,i,Y,S,by lia,by lia,λo q x k S X=>?_⟩;let k:cF l H q:=b.trans (bN X);let d:qR ↑f s:=⟨M,by lia⟩;let r:qR ↑f o:=⟨x,by lia⟩;let U:=g.sl s d.1 d.2;let lo:=g.sl o r.1 r.2;refine⟨Y,Y,_,j,f,s,C,N,1,(kp k).1,by lia,g.sn.sd,d.1,d.2,g.sn.ss,g.sn.ln,R,by have:=O s;lia,λx M b q U=>⟨x,Y,.inl (bL.of b),?_⟩⟩;rw[cC];let x:cF l H M:=k.trans (_gI.aJ.keep q);refine⟨Y,Y,Z,l,i,Y,S.same q,by lia,by lia,λp k q S u M=>?_⟩;let m:cF l H k:=x.trans (bN M);let G:0<=p/\p<=↑(C s):=⟨q,by lia⟩;refine⟨Y,Z,Y,dM (λ_=>?_) (λ_=>?_)⟩
 ·refine⟨Y,Y,Y,Y,l,i,bu,W,z,B,f,1,u,(kp m).2,F,by lia,λw k I q x b y J L=>⟨C2,λt n=>?_⟩⟩;let a:=ao n (.tup [.str "put",.int s,.int p,↥w]);refine v t (.put s p w k) _ ⟨af,x.same a⟩ ⟨d,G,q,b⟩ ?_ (J.same a) ((m.trans L).trans (_gI.aJ.keep a));show H w=none
  cases e:H w with
  | none=>rfl
  | some ob =>
   exfalso;by_cases T:w=l
   ·let⟨_,b⟩:=u.lst;rw[T,b]at y;cases y
   ·rw[m _ _ e T]at y;cases y
 refine⟨Y,Z,Y,dM (λ_=>?_) (λ_=>?_)⟩
 ·refine⟨Y,Y,Y,l,i,s,Y,u,by lia,by lia,λc k q t b I a n e J L=>v t b I e ?_ ?_ J (m.trans L)⟩
  ·rcases n with rfl|rfl
   ·exact⟨d,a.1⟩
   ·exact⟨d,a⟩
  ·rcases n with rfl|rfl <;> trivial
 refine⟨Y,Z,Y,dM (λ_=>?_) (λ_=>?_)⟩
 ·refine⟨Y,Y,_,j,f,o,C,N,1,(kp m).1,by lia,g.sn.sd,r.1,r.2,g.sn.ss,g.sn.ln,R,by have:=O o;lia,λe I f b g=>⟨e,Y,.inl (bL.of f),?_⟩⟩;rw[cC];refine⟨Y,Y,Z,l,i,Y,u.same b,by lia,by lia,λc g j k e f=>?_⟩;refine⟨Y,Y,Y,Y,Y,Y,Y,Y,Z,Z,l,i,Y,e,by lia,by lia,λe j k l g i=>⟨Z,ZL,λt n=>?_⟩⟩;let a:=ao n (.tup [.str "quote",.int s,.int p,.int o,.int c,.int (c+e)]);exact v t (.UZ s p o c (c+e)) _ af ⟨d,G,r,by lia,by lia,by lia⟩ trivial (g.same a) ((((m.trans (_gI.aJ.keep b)).trans (bN f)).trans (bN i)).trans (_gI.aJ.keep a))
 refine⟨Y,Z,Y,dM (λ_=>?_) (λ_=>?_)⟩
 ·refine⟨Y,Y,Y,C2,λt n=>?_⟩;let a:=ao n (.tup [.str "window",.int s,.int p,.int o]);exact v t (.win s p o) _ af ⟨d,G,r⟩ trivial (u.same a) (m.trans (_gI.aJ.keep a))
 ·refine⟨Y,mT,λt n=>?_⟩;let a:=ao n (.tup [.str "fix",.int s]);exact v t (.fix s) _ af d trivial (u.same a) (m.trans (_gI.aJ.keep a))
def LD.At.tup{H:Hp}{t:Addr}{a:LD}(h:a.At H t):∃ b,H t=⇑(.tup b)/\om b 1=⇑(.int a.sh):=by
 cases a with
 | put=>exact⟨_,h.1,1⟩
 | _=>exact⟨_,h,1⟩
def LD.At.kept{H c:Hp}{t:Addr}{b:LD}(h:b.At H t)(d:∀ e a,H e=⇑(.tup a)->c e=⇑(.tup a))(g:∀ s p r f,b=.put s p r f->∀ a,H r=⇑(.lst a)->c r=⇑(.lst a)):b.At c t:=by
 cases b with
 | put s p r f =>
  let⟨i,j,k,l⟩:=h;exact⟨d _ _ i,j,g _ _ _ _ rfl _ k,l.tups d⟩
 | _=>exact d _ _ h
class inductive F6(C CS CW CB:Addr)
 | mk (l g w x:Addr) (U W:Y1) (a:gZ) (b:dB) (f:iD) (c:gG) (h:Nat) (i:Row) (_:vs=[↥l,↥w,↥x]) (_:pA C CS CW CB H l g w x U W a b a b f c h i) (_:1<=↑b) (_:↑a<=800) (_:↑f<=800) (_:↑c<=10000) (_:Good ↑c b) (_:∀ (m n:Y1) (d:gZ) (e:dB) (j:iD) (k:Hp),pA C CS CW CB k l g w x m n d e d e j c h i->↑e=↑b->↑a<=↑d/\↑d<=↑a+1->↑j<=↑f+1->Good ↑c e->(∀ y∈d,y∈a\/y=e)->Q (.bl true) k)
def F7(D:bW)(Ip:bq c9 bu bZ cW cU cR 43 (d7 100) (d8 100) ["_law_src_here","_law_world_here"] P5)(F8:bq c9 bu bZ cW cU cR 45 (d7 95) (d8 95) ["_law_world_here","_law_deed_here"] Ko)(Iq:bq c9 bu bZ cW cU cR 43 (d7 94) (d8 94) ["_law_rows","_law_sheet"] PV)(Ir:bq c9 bu bZ cW cU cR 7 (d7 97) (d8 97) ["_law_house","_law_deed_here"] (P0 fj cO dc d9)):bq c9 bu bZ cW cU cR 46 (d7 101) (d8 101) ["_law_src_here","_law_world_here","_law_house"] (F6 fj cO dc d9):=by
 specialize fm ["_law_src_here","_law_world_here","_law_house","_law_deed_here","_law_rows"] D.Ux.F;let⟨X,aq,bu,ar,U,W,e,b,N,d,nW,O,rfl,St,r1,b1,b2,b3,R,S⟩:=h;let hu:=gR hr;exists _,#v[aX 3 (aC D.Uw Ip hr #[0,1]),aX 4 (aC D.WE (xh D) hr #[gu hu (pv 1) bw,aP aZ (pv 3) az,aC D.jl F8 hr #[1,3]]),bO (kZ (mh (aC D.ji Iq hr #[4,aP aZ (pv 3) az]))) #v[aM nF] bg,aT (aC D.OE (m8 D) hr #[1,4]),aM (MX (GS (aC D.jp Ir hr #[2,3])))]
 all_goals try dsimp only[aS,aH]
 let⟨c,g⟩:=R.UY;let ax:=g.ln;refine⟨Y,Y,W,X,aq,bu,d,e,b,c,1,St.src,St.wo,St.dw,g,r1,by lia,λt a H1 f n T X K1=>?_⟩;let i:=St.mv K1 X;let⟨q,j,r,u,v⟩:=id i.wo;let X:=gW.k (k:=kR) v.hw;rw[show cI (kX q j r u) kR=⇑↥j by kernel_rfl]at X;let⟨_,_,_,xs,ab,al⟩:=id v.hr;let lv:=cG.len al;let⟨tv,ht,ae⟩:=f.tup;let is:=LD.Yp n;let ag:=is.1;let aq:=is.2;let ss:((a.sh.toNat:Nat):Int)=a.sh:=by lia
 refine⟨Y,bu,Y,X,Y,t,Q,V,dO.of ht,ae,Y,Y,W,bu,t,d,e,b,↑d,c,a,1,i.wo,f,g,n,by lia,λai X ho lo w fo=>?_⟩;refine⟨j,ai,a.sh.toNat,xs,by rw[ss];rfl,w _ _ ab,by lia,by lia,λx X hq B fq=>?_⟩;let C:=w.trans B;let ak:=aU w fq;let w:=LD.Xz g n;let am:=PM (s:=a.sh.toNat) g.en w;let w:iM (λ_=>False) X x (b.set a.sh.toNat (a.res c b)):=⟨_,hq,cG.set _ (al.mono λm l ⟨o,k,Q,F⟩=>⟨o,k,λz=>z,C _ _ F⟩) ⟨ai,1,λz=>z,B _ _ ho⟩⟩;let au:↑(b.set a.sh.toNat (a.res c b))=↑b:=List.length_set
 refine⟨Y,Y,t,Q,V,dO.of (C _ _ ht),ae,_,x,_,a.sh,1,w,by lia,(λl k=>by
  rcases List.mem_or_eq_of_mem_set k with z|z
  ·have:=g.es l z;lia
  ·rw[z];exact lo),DA am,ag,by lia,PK ag g.sn.rk,λo H4 G F=>⟨o,1,?_⟩⟩
 let l:=C.trans G;let Qx:=i.same l
 cases o with
 | false=>exact iF (S U W e b N H4 Qx rfl ⟨by lia,by lia⟩ ∅ R λ_ z=>.inl z)
 | true =>
  refine gp ?_;let⟨R5,f5,w5,m5⟩:=F rfl;let an:Good ↑d (b.set a.sh.toNat (a.res c b)):=⟨am,R5,by lia,f5,w5,m5⟩;let o:xH 100 O W H4 bu q j r u d e b:=v.fr (λm p k _=>l _ _ k) λm xs k=>l _ _ k;have I:=i.new ak;have J:=i.new fo;let⟨i,rv⟩:=Wo.swap o (l _ _ ab) (G _ _ hq) (G _ _ (B _ _ ho)) I.2.1 J.2.1;refine⟨Y,Y,_,bu,x,d,e,b,b.set a.sh.toNat (a.res c b),1,⟨q,j,r,u,i⟩,by lia,λi j ⟨k,q,L⟩=>?_,λH5 av T6 ap _=>?_⟩
  ·rw[o.hw]at L;simp only[Option.some.injEq,HO.dK.injEq,kX,List.cons.injEq,Prod.mk.injEq,V.ref.injEq,true_and,and_true]at L;let⟨rfl,rfl,rfl,rfl⟩:=L;exact rv
  let M:=Qx.kept av (λm z y=>by
   rcases y with y|y|y
   ·exact (St.du m z).1 y
   ·exact J.1 (by rw[← y];exact z)
   ·exact I.1 (by rw[← y];exact z)) (λm y=>by
   rcases y with y|y|y
   ·exact St.dw m y
   ·rw[y];exact J.2.2
   ·rw[y];exact I.2.2) T6 ap
  let aw:a.At H5 t:=(f.same l).kept ap λs k r l i m j=>by
   rw[i]at T f;let nr:=St.new (show H r=none from T);let⟨_,i,p,_⟩:=f;refine T6 _ _ j λy=>?_;rcases y with y|y|y
   ·exact nr.2.1 y
   ·rw[y,fo]at p;cases p
   ·rw[y,ak]at p;cases p
  refine⟨Y,Y,U,ar,t,e,N,d,nW,O,b,c,a,1,M.Kg,M.lst,by lia,by lia,b3,aw,g,n,by rw[FP _ ∅];exact an.bears,λU' p cA f d e=>?_⟩;let⟨y,_⟩:=M.pz d (k:=i6 b a.sh.toNat (a.res c b)) (by simp) e;rw[FP _ ∅]at y;show Q (.bl (decide (V.gc=V.gc))) p;rw[decide_eq_true rfl];exact S U' _ _ _ cA p y au (by rw[dh];exact⟨Nat.le_add_right ..,fH _⟩) ∅ an λ_ z=>(List.mem_append.mp z).imp id List.mem_singleton.mp
def Tz{f b:Hp}{t:Addr}{h:Int}{g:List Nat}{i d:Nat}{c:WF}(l:f a=none)(m:g[i]?=⇑d)(k:b a=⇑(.lst (c.map V.ref)))(n:Paired (Kc b) c (oJ h (g.take i)))(o:aJ f b)(j:b t=none):(aL (aL b t (.tup [.int h,qu d])) a (.lst (c.map V.ref++[↥t]))) a=⇑(.lst ((c++[t]).map V.ref))/\Paired (Kc (aL (aL b t (.tup [.int h,qu d])) a (.lst (c.map V.ref++[↥t])))) (c++[t]) (oJ h (g.take (i+1)))/\aJ f (aL (aL b t (.tup [.int h,qu d])) a (.lst (c.map V.ref++[↥t]))):=by
 refine⟨?_,?_,λp q e=>?_⟩
 ·rw[af,gP];rfl
 ·let p:t≠a:=(aA k j).symm;rw[take_snoc m];unfold oJ;rw[gP];refine Dt (Paired.Cs n λq r e=>?_) ?_
  ·show aL _ a _ q=_;rw[aK (cS e k)];exact ao j _ _ _ e
  ·show aL _ a _ t=_;rw[aK p];exact af
 ·rw[aK (aA e l)];exact ao j _ _ _ (o _ _ e)
class inductive Mt(C CS CW CB:Addr)
 | mk (l j w x:Addr) (U W:Y1) (b:gZ) (a:dB) (c:gZ) (d:dB) (e:iD) (f:gG) (g:Nat) (k:Row) (_:vs=[↥l,↥w,↥x]) (_:pA C CS CW CB H l j w x U W b a c d e f g k) (_:↑b<=800) (_:↑c<=800) (_:↑a<=50) (_:↑e<=800) (_:↑f<=50000) (_:g<=800) (_ :
 ∀ (m:Y1) (h:Hp) (n:Int) (i:List Nat) (o:iD),ny n->↑i<=60->(∀ y∈i,y≠10)->↑o=↑e+1->pA C CS CW CB h l j w x m W (b++[a]) a (c++[d]) d o (f++oJ n i) (g+1) k->Kh l U W m W H h->Q (.bl true) h)
def pE:TS:=λD a H=>∃ (l c:Addr) (d e f g h:Option V) (i:Int),a=[⇑↥l,d,e,f,g,⇑(.int i),h]/\dm H l c/\ny i/\∀ (j:Int) (a:Hp),ny j->dm a l c->(∀ b,b≠l->a b=H b)->D.nx [⇑↥l,d,e,f,g,⇑(.int j),h] a
theorem F9:‹(5,102,["_law_src_here","_law_world_here","_law_house"],(Mt fj cO dc d9))›:=λD=>by
 let J:bq c9 bu bZ cW cU cR 1 _ _ ["_law_src_here","_law_base"] sM:=fV D;specialize fm ["_law_src_here","_law_world_here","_law_house","_law_many","_law_text_here","_law_hand","_law_start"] D.Uy.F;let⟨l,g,bu,ak,aw,W,pe,ax,pq,U,aB,L,nW,aO,rfl,St,b1,a5,b2,b3,b4,b5,X⟩:=h;let hu:=gR hr;refine⟨_,#v[aX 3 (aP bH (bJ #[az,az,az,az,az]) (aC D.qL J hr #[0,az])),aX 4 (aC D.WD (xg D) hr #[0,aC D.qL J hr #[0,bx cT (pv 3) az]]),aX 5 (aC D.qL J hr #[0,az]),vo (c:=pE) (bO (aV eE (aC D.qL J hr #[0,az]) az (bh _)) #v[aX 5 (aC D.qL J hr #[0,bx M6 az az])] bg) ?b3,aX 6 (gg D.T.eV (gu hu (pv 1) bw)),aT (dX n8 PySem.F.slot_list_extend PySem.F.type_list_extend jY (gu hu (pv 1) bw) #[gS (N:=["_law_sign_here","_law_hand"]) (kG (c:=cB sF) (f:=["_law_src_here","_law_world_here","_law_house","_law_many","_law_text_here","_law_hand","_law_start"]) (d:=[none,some 5]) rfl rfl rfl nofun nofun rfl nofun rfl nofun) rfl (Wf (pv 4)) (λ_ _ _ _ _ _=>(bX 0)) (λ_ _ _ _ _ _=>gQ) (λ_ _ _ _ _ _=>(cZ #[1,0]))]),aT (aC D.OE (m8 D) hr #[1,gu hu (pv 1) bw]),aM (aC D.ZT (m6 D 2) hr #[cV (pv 2) D.aR D.WB (xE D) hr bR #[5,4],cZ #[6,bx cT (pv 6) (bU ic rfl D.T.eV PySem.boot_len #[4])]])],?_⟩
 all_goals try dsimp only[aS,aH]
 case b3 =>
  rintro D σ H ⟨l,g,s1,b,i,j,k,h,rfl,S,fh,X⟩;refine⟨Y,l,g,4,1,S,by decide,by decide,λam H1 i j b c=>⟨1,Y,dM (λ_=>?_) (λ_=>X h H1 fh b c)⟩⟩;refine⟨Y,Z,⟨by decide,by decide,by decide⟩,l,g,Y,b,by decide,by decide,λe H2 f d S2 M=>?_⟩;rw[show (10:Int)^(59:Int).toNat=10^59 from rfl]at d;exact X e H2 ⟨f,Int.lt_trans d (by decide)⟩ S2 λy a=>(M y a).trans (c y a)
 refine⟨Wg,λC N=>?_⟩;let s1:=ao N (.lst [.int 1,.int 3,.int 5,.int 8,.int 60]);let h1:(aL H C (.lst [.int 1,.int 3,.int 5,.int 8,.int 60])) C=⇑(.lst [.int 1,.int 3,.int 5,.int 8,.int 60]):=af;let nt:=St.src.ne N;generalize aL H C (.lst [.int 1,.int 3,.int 5,.int 8,.int 60])=H1 at s1 h1;let J:=St.same s1;refine⟨Y,l,g,5,1,J.src,by decide,by decide,λi H2 i0 i1 S2 M=>?_⟩;let A1:=J.mv (bN M) S2;let⟨z,hz,ez⟩:=zX (a:=[V.int 1,.int 3,.int 5,.int 8,.int 60]) i0 (by show i<5;lia)
 obtain⟨tn,rfl,LZ,W0⟩:∃ p:Int,z=.int p/\0<=p/\p<=60:=by
  let b:∀ y∈[V.int 1,.int 3,.int 5,.int 8,.int 60],∃ p:Int,y=.int p/\0<=p/\p<=60:=by
   intro y a;rcases List.mem_cons.mp a with q|a
   ·exact⟨(1),q,by decide,by decide⟩
   rcases List.mem_cons.mp a with q|a
   ·exact⟨3,q,by decide,by decide⟩
   rcases List.mem_cons.mp a with q|a
   ·exact⟨5,q,by decide,by decide⟩
   rcases List.mem_cons.mp a with q|a
   ·exact⟨8,q,by decide,by decide⟩
   ·exact⟨60,List.mem_singleton.mp a,by decide,by decide⟩
  exact b z hz
 exists C,Q,V,bL.of ((M C nt.1.symm).trans h1),ez;refine⟨Y,Y,Y,Z,l,g,Y,S2,by lia,by lia,λJ H3 m0 m1 S3 k3=>?_⟩;let U6:=A1.mv (bN k3) S3;refine⟨l,g,J.toNat,by rw[show ((J.toNat:Nat):Int)=J by lia];rfl,S3,by lia,λt H4 QU MR J K4=>?_⟩;let Qx:=U6.mv K4 J;refine⟨Y,l,g,3,1,J,by decide,by decide,λh0 H5 p0 p1 J k5=>?_⟩;let Tw:=Qx.mv (bN k5) J;refine⟨l,g,Q,E,h0,1,J,⟨p0,by lia⟩,λh H6 fh S6 J=>?_⟩;let f:=Tw.mv (bN J) S6;let an:cF l H H6:=((((((_gI.aJ.keep s1).trans (bN M)).trans (bN k3)).trans K4).trans (bN k5)).trans (bN J));let⟨c,rw,G,O,b⟩:=id f.wo;let⟨F,R,pa⟩:=id b.hi;let la:=Paired.length pa;let J:=gW.k (k:=kI) b.hw;rw[show cI (kX c rw G O) kI=⇑↥c by kernel_rfl]at J;exists Y,bu,Y,J,c,Y,.inl (bL.of R);refine⟨Y,bu,Y,J,.inl ⟨1,_,bL.of R⟩,Y,t,1,λap cJ=>Lz (λp σ r=>∃ (ab:Option V) (s:WF),σ=[ab,⇑(.int h)]/\r ap=⇑(.lst (s.map V.ref))/\Paired (Kc r) s (oJ h (t.take p))/\aJ H6 r) ⟨none,[],1,af,.nil,ao cJ _⟩ ?_ ?_⟩
 ·rintro p d σ r a ⟨ab,s,rfl,ha,I,s7⟩;let lb:=Paired.length I;rw[qS,gm]at lb;refine⟨Y,Y,mT,λC N=>⟨_,ao N _ _ _ ha,(by rw[cC];exact aN ∅),_,s++[C],1,Tz cJ a ha I s7 N⟩⟩
 rintro σ r ⟨ab,s,rfl,ha,I,s7⟩;rw[gU]at I;let lb:=Paired.length I;rw[qS]at lb;let aq:=s7 _ _ R;refine⟨c,ap,Z,aq,ha,(by rw[cC,cC];exact gn (aN ∅)),?_⟩;rw[← gP];let k8:cF c r (aL r c (.lst ((F++s).map V.ref))):=aG c _ _;let i8:(aL r c (.lst ((F++s).map V.ref))) c=⇑(.lst ((F++s).map V.ref)):=af;generalize aL r c (.lst ((F++s).map V.ref))=p at k8 i8;let k:∀ a d,H6 a=⇑d->a≠c->p a=⇑d:=λa d e n=>k8 _ _ (s7 _ _ e) n;have ag:∀ a j,H6 a=⇑(.tup j)->p a=⇑(.tup j):=λa j e=>k _ _ e (cS e R);have C:∀ a j,r a=⇑(.tup j)->p a=⇑(.tup j):=λa j e=>k8 _ _ e (cS e aq);have r:p bu=⇑(.dK (kX c rw G O)):=k _ _ b.hw (cS b.hw R);have ar:Kd W c G p rw U:=b.hr.fr (λ_ z=>z) λa j e _ n _=>k _ _ e n
 let J:xH 100 aO W p bu c rw G O (L++oJ h t) pq U:=by
  let⟨o,u,v⟩:=b.hp;refine⟨b.ww,b.wi,b.wp,b.wv,λa z=>?_,r,⟨F++s,i8,AW (Paired.Cs pa λa q e=>ag _ _ e) (Paired.Cs I λa q e=>C _ _ e)⟩,ar,⟨o,k _ _ u b.ne.symm,v.mono λam o ⟨a,e,q⟩=>⟨a,e,q.fr (λ_ y=>y) λa j e _ n _=>k _ _ e n⟩⟩,b.ne,b.lst,b.hv.imp λ_ z=>⟨k _ _ z.1 b.nv.1,z.2⟩,b.nv⟩;by_cases e:a=c
  ·rw[e];exact⟨_,i8⟩
  ·let⟨d,m⟩:=b.al a z;exact⟨d,k _ _ m e⟩
 let aQ:=f.Kg.fr (λa d e z=>k _ _ e (λq=>(f.du a z).1 (by rw[q];exact b.wi))) ag
 let a0:dm p l g:=by
  let⟨n,u,i,v,w,o,m,y⟩:=S6;exact⟨n,u,i,v,w,k _ _ o (λq=>(f.dw c b.wi).1 q.symm),k _ _ m (λq=>(f.dw c b.wi).2 q.symm),y⟩
 let p:=gW.k (k:=kR) r;rw[show cI (kX c rw G O) kR=⇑↥rw by kernel_rfl]at p;refine⟨Y,Y,bu,Y,p,W,bu,rw,L++oJ h t,pq,U,U,1,⟨c,rw,G,O,J⟩,by lia,λc p ⟨s,C,e⟩=>?_,λH9 ai ae au _=>?_⟩
 ·rw[r]at e;simp only[Option.some.injEq,HO.dK.injEq,kX,List.cons.injEq,Prod.mk.injEq,V.ref.injEq,true_and,and_true]at e;let⟨rfl,rfl,rfl,rfl⟩:=e;exact ar
 let av:=aQ.fr (λa d e z=>ae _ _ e (f.du a z).1) au
 let TF:dm H9 l g:=by
  let⟨n,u,i,v,w,o,m,y⟩:=a0;exact⟨n,u,i,v,w,ae _ _ o (λq=>(f.dw l q).1 rfl),ae _ _ m (λq=>(f.dw g q).2 rfl),y⟩
 let⟨r,s,c,C,G,I,J,M,N,O,R,U,ap,aq,ar,aQ,a0,a5,FJ,p⟩:=id av;refine⟨Y,ak,c,Y,p.L.hx,1,Y,Y,aw,ak,pe,aB,L,nW,aO,h,t,ax,1,av,fh,by lia,by lia,by lia,f.lst,b2,by lia,by lia,λU' q AD a1 x c=>?_⟩;refine⟨Y,Y,Y,dY t,1,(by rw[eZ];exact gn (aN ∅)),Z,mT,λp EL=>?_⟩;refine⟨E,1,.inr ⟨false,q,p,Z,ao EL _ _ _ c,af,1,λi ab am S T=>?_⟩,λX5 a2=>?_⟩
 ·match i,S,T with
  | 0,S,T =>
   cases S;cases T;rw[show ↑(F.map V.ref)=↑L by rw[cC,la]];exact Eqv.int _
  | 1,S,T =>
   cases S;cases T;rw[show (↑(L++oJ h t):Int)=(↑(F.map V.ref):Int)+(↑(dY t):Int) by rw[cC,la,eZ,dh,qS];lia];exact Eqv.int _
 let B:aJ AD X5:=λa d e=>a2 _ _ (ao EL _ _ _ e);have Xi:∀ a d,H a=⇑d->a≠l->¬ W a->H9 a=⇑d:=λa d e n z=>ae _ _ (k _ _ (an _ _ e n) (λq=>z (by rw[q];exact b.wi))) z
 let a3:∀ a,H9 a=none->H a=none:=by
  intro a e
  cases y:H a with
  | none=>rfl
  | some d =>
   exfalso;by_cases n:a=l
   ·let⟨_,u,i,v,w,o,_⟩:=TF;rw[n,o]at e;cases e
   by_cases z:W a
   ·let⟨d,m⟩:=ai.al z;rw[m]at e;cases e
   rw[Xi _ _ y n z]at e;cases e
 let a4:dm X5 l g:=by
  let⟨n,u,i,v,w,o,m,y⟩:=TF;exact⟨n,u,i,v,w,B _ _ (x.2.1 _ _ o (λq=>(f.du l q).2.1 rfl)),B _ _ (x.2.1 _ _ m (λq=>(f.du g q).2.2 rfl)),y⟩
 refine X U' X5 h t _ fh ∅ MR (by rw[dh];rfl) ⟨a4,a1.fr (λa d e _=>B _ _ e) (λa j e=>B _ _ e),(by simp),ai.fr (λa d e z=>B _ _ (x.2.1 _ _ e (λy=>(f.du a y).1 z))) (λa j e=>B _ _ (x.2.2 _ _ e)),λa z=>?_,f.dw⟩ ⟨λa z=>z.elim (λz=>(x.1 a z).elim .inl λy=>.inr (.inr (a3 a y))) (λz=>.inr (.inl z)),λa d e n y z=>B _ _ (x.2.1 _ _ (Xi _ _ e n z) y),λa j e=>?_⟩
 ·rcases x.1 a z with y|y
  ·exact f.du a y
  ·refine⟨λz=>?_,λq=>?_,λq=>?_⟩
   ·let⟨d,m⟩:=ai.al z;rw[m]at y;cases y
   ·let⟨_,u,i,v,w,o,_⟩:=TF;rw[q,o]at y;cases y
   ·let⟨_,u,i,v,w,_,o,_⟩:=TF;rw[q,o]at y;cases y
 ·let⟨b,a⟩:=St.src.lst;exact B _ _ (x.2.2 _ _ (au _ _ (ag _ _ (an _ _ e (cS e a)))))
class inductive Iu(C CS CW CB:Addr)
 | mk (l g w x:Addr) (U W:Y1) (c:gZ) (a:dB) (d:gZ) (b:dB) (e:iD) (h:gG) (i:Nat) (j:Row) (_:vs=[↥w,↥x]) (_:pA C CS CW CB H l g w x U W c a d b e h i j) (_:↑c<=800) (_:↑d<=800) (_:↑a<40) (_:↑b=↑a) (_:↑e<=800) (_:(∃ o,mR (a++[[]]) o)) (_ :
 ∀ (k m:Y1) (f:Hp) (n:iD),↑n=↑e+1->pA C CS CW CB f l g w x k m (c++[a++[[]]]) (a++[[]]) (d++[b++[[]]]) (b++[[]]) n h i j->Kh l U W k m H f->Q (.bl true) f)
theorem DC:‹(8,103,["_law_world_here","_law_house"],(Iu fj cO dc d9))›:=λD=>by
 specialize fm ["_law_world_here","_law_house"] D.Uz.F;let⟨w,x,bu,ab,ae,W,pe,am,I,B,aB,J,nW,aO,rfl,St,b1,a1,b2,a2,b3,an,ap⟩:=h;let hu:=gR hr;exists _,#v[aT (aC D.OE (m8 D) hr #[0,bx ja (gu hu (pv 0) bw) (bJ #[bJ ah])]),aM (aC D.ZT (m6 D 1) hr #[gO (pv 1) D.aR D.Wz (vV D) hr bR,bx dD (gg D.T.eV (gu hu (pv 0) bw)) az])]
 all_goals try dsimp only[aS,aH]
 let⟨C,rw,F,G,l⟩:=id St.wo;let zr:=gW.k (k:=kR) l.hw;rw[show cI (kX C rw F G) kR=⇑↥rw by kernel_rfl]at zr;exists Y,Y,bu,Y,zr;let⟨a1,n1,n2,vs,aq,al⟩:=id l.hr;let lv:=cG.len al;refine⟨iy,λe i=>⟨kH,λo ho=>?_⟩⟩;let s1:=ao i (.lst []);let d:(aL H e (.lst [])) e=⇑(.lst []):=af;generalize aL H e (.lst [])=L at s1 d ho;let M:=ao ho (.lst [↥e]);let o2:(aL L o (.lst [↥e])) o=⇑(.lst [↥e]):=af;show Y6 _ _ (aL L o (.lst [↥e])) _;generalize aL L o (.lst [↥e])=H2 at M o2;let N:=s1.trans M;refine⟨rw,o,Z,N _ _ aq,o2,(by rw[lv];exact gn (aN (by simp only[fE,pR];lia))),λr JZ=>?_⟩;let O:=ao JZ (.lst (vs++[↥e]));let R:(aL H2 r (.lst (vs++[↥e]))) r=⇑(.lst (vs++[↥e])):=af;generalize aL H2 r (.lst (vs++[↥e]))=o at O R;let m:=N.trans O;let p:=aU N JZ;let⟨L,zW,_⟩:=id l.hi;let⟨L,Kf,_⟩:=id l.hp;let e3:=O _ _ (M _ _ d);let S:xH 100 aO W o bu C rw F G J I B:=l.fr (λa b e _=>m _ _ e) (λa j e=>m _ _ e)
 let Yn:xH 100 aO (λa=>W a\/a=e\/a=r) o bu C rw F G J I B:=pA.UU S (λa z=>.inl z) (by
  rintro a (z|z|z)
  ·exact S.al a z
  ·rw[z];exact⟨_,e3⟩
  ·rw[z];exact⟨_,R⟩)
 let ag:∀ a b,H a=⇑b->¬ W a->¬ (W a\/a=e\/a=r):=by
  rintro a b c n (z|z|z)
  ·exact n z
  ·rw[z,i]at c;cases c
  ·rw[z,p]at c;cases c
 refine⟨λa=>W a\/a=e\/a=r,bu,r,J,I,B,B++[[]],1,⟨C,rw,F,G,Yn⟩,by lia,λl o ⟨B,C,T⟩=>?_,λs U ar au _=>?_⟩
 ·rw[S.hw]at T;simp only[Option.some.injEq,HO.dK.injEq,kX,List.cons.injEq,Prod.mk.injEq,V.ref.injEq,true_and,and_true]at T;let⟨rfl,rfl,rfl,rfl⟩:=T;exact⟨.inr (.inr rfl),(aA zW p).symm,(aA Kf p).symm,_,R,cG.snoc (al.mono λ_ _=>UT.fr (λa z=>.inl z) (λa j e _ _ _=>m _ _ e)) ⟨e,1,.inr (.inl rfl),(aA zW i).symm,(aA Kf i).symm,e3⟩⟩
 let t:∀ a b,H a=⇑b->¬ W a->s a=⇑b:=λa b e n=>ar _ _ (m _ _ e) (ag _ _ e n);have ai:∀ a j,H a=⇑(.tup j)->s a=⇑(.tup j):=λa j e=>au _ _ (m _ _ e);have av:=St.Kg.fr (λa b e z=>t _ _ e (St.du a z).1) ai
 let X:dm s w x:=by
  let⟨n,c,u,v,r,d,g,h3⟩:=St.src;exact⟨n,c,u,v,r,t _ _ d (λq=>(St.dw w q).1 rfl),t _ _ g (λq=>(St.dw x q).2 rfl),h3⟩
 let uw:∀ a,ae a->¬ (W a\/a=e\/a=r):=λa z=>by
  let⟨b,c⟩:=St.Kg.al z;exact ag _ _ c (St.du a z).1
 let⟨o,R,m,B,C,F,G,I,J,L,M,N,S,T,ag,aq,ar,au,O,l⟩:=id av;refine⟨Y,ab,m,Y,l.L.hx,1,o,ab,m,B,C,F,G,I,J,L,M,N,pe,O,aB,am,1,l.L,St.lst,by lia,by lia,by lia,by lia,⟨an,λB C m o=>?_⟩⟩;let⟨U',aw,f⟩:=l.uN m o;let ak:=U.fr (λa b e z=>f.2.1 _ _ e (λy=>uw a y z)) f.2.2;let⟨C,l,F,G,m⟩:=id ak;let⟨_,_,_,o,I,B⟩:=id m.hr;let o:=cG.len B;rw[dh]at o;let B:=gW.k (k:=kR) m.hw;rw[show cI (kX C l F G) kR=⇑↥l by kernel_rfl]at B;refine⟨Y,bu,Y,B,l,Y,.inl (bL.of I),Z,E,1,.inl ⟨1,?_⟩,λH6 k=>?_⟩
 ·rw[o];simp only[fE,pR];congr 1;lia
 let ax:∀ a b,H a=⇑b->¬ ae a->¬ W a->H6 a=⇑b:=λa b e y z=>k _ _ (f.2.1 _ _ (t _ _ e z) y)
 let aQ:dm H6 w x:=by
  let⟨n,c,u,v,r,d,g,h3⟩:=X;exact⟨n,c,u,v,r,k _ _ (f.2.1 _ _ d (λq=>(St.du w q).2.1 rfl)),k _ _ (f.2.1 _ _ g (λq=>(St.du x q).2.2 rfl)),h3⟩
 let a0:∀ a,s a=none->H a=none:=by
  intro a c
  cases q:H a with
  | none=>rfl
  | some b =>
   exfalso;by_cases z:W a
   ·let⟨b,g⟩:=U.al (a:=a) (.inl z);rw[g]at c;cases c
   rw[t _ _ q z]at c;cases c
 refine ap U' (λa=>W a\/a=e\/a=r) H6 _ (by rw[dh];rfl) ⟨aQ,aw.same k,by simp,ak.same k,λa z=>?_,λa z=>?_⟩ ⟨λa z=>z.elim (λz=>(f.1 a z).elim .inl λy=>.inr (.inr (a0 a y))) (λz=>?_),λa b e n y z=>ax _ _ e y z,λa j e=>k _ _ (f.2.2 _ _ (ai _ _ e))⟩
 ·rcases f.1 a z with y|y
  ·exact⟨uw a y,(St.du a y).2⟩
  ·change s a=none at y;refine⟨λz=>?_,λq=>?_,λq=>?_⟩
   ·let⟨b,g⟩:=U.al z;rw[g]at y;cases y
   ·let⟨_,c,u,v,r,d,_⟩:=X;rw[q,d]at y;cases y
   ·let⟨_,c,u,v,r,_,d,_⟩:=X;rw[q,d]at y;cases y
 ·let c:=St.src.ne i;let g:=St.src.ne p;rcases z with z|z|z
  ·exact St.dw a z
  ·rw[z];exact⟨c.1.symm,c.2.symm⟩
  ·rw[z];exact⟨g.1.symm,g.2.symm⟩
 ·rcases z with z|z|z
  ·exact .inr (.inl z)
  ·rw[z];exact .inr (.inr i)
  ·rw[z];exact .inr (.inr p)
abbrev e0(n:Nat):dB:=List.replicate n []
theorem Kp(n:Nat):e0 n++[[]]=e0 (n+1):=(List.replicate_succ').symm
theorem v9{n:Nat}{a:Wp}(h:a∈e0 n):a=[]:=(List.mem_replicate.mp h).2
theorem XE{n:Nat}{x y:Int}:¬ jS (e0 n) x y:=λ⟨_,c,b,a⟩=>by
 rw[v9 (lK b)]at a;cases a
theorem P7(n:Nat):gT (e0 n):=λc b y a=>by
 rw[v9 b]at a;cases a
theorem P8(n:Nat):CO (e0 n):=⟨λ_=>0,λ_=>Nat.zero_le _,λ_ _ z=>absurd z XE⟩
def P9{n:Nat}(h:n<=100):mR (e0 n) λ_=>0:=by
 refine⟨by rw[xo];exact h,λb a=>by rw[v9 a];exact Nat.zero_le _,P7 n,P8 n,λx b _ a=>?_,λ_ _ _=>by decide⟩;rw[v9 (lK a)];rfl
abbrev Mu(p:Int × Nat):Prop:=ny p.1/\p.2≠10
def uR(n:Nat):gZ:=[[],[],[]]++(List.range n).map λk=>e0 (k+1)
def Mw(n:Nat):uR (n+1)=uR n++[e0 (n+1)]:=by
 unfold uR;rw[List.range_succ,gP,ko];rfl
def Ah(n:Nat):↑(uR n)=n+3:=by
 unfold uR;rw[dh,cC,List.length_range];show 3+n=_;lia
class inductive Ai(C CS CW CB:Addr)
 | mk (l c w x:Addr) (U W:Y1) (_:vs=[↥l,↥w,↥x]) (_:pA C CS CW CB H l c w x U W [[]] [] [[]] [] [] [] 0 []) (_ :
 ∀ (d e:Y1) (a:Hp) (n:Nat) (b:gG) (f:iD),2<=n->n<=4->↑b<=120->(∀ p∈b,Mu p)->↑f=n+2->pA C CS CW CB a l c w x d e (uR n) (e0 n) (uR n) (e0 n) f b 2 []->Kh l U W d e H a->Q (.bl true) a)
theorem DE:‹(9,104,["_law_src_here","_law_world_here","_law_house"],(Ai fj cO dc d9))›:=λD=>by
 specialize fm ["_law_src_here","_law_world_here","_law_house","_law_good","_law_k"] D.UA.F;let⟨l,i,bu,x,U,W,rfl,St,N⟩:=h;let hu:=gR hr;exists _,#v[aX 3 nF,eX PassesOwn.never rfl (iA rfl D.T.iX #[az]) (bX 4) #v[aX 3 (oh (aC D.Uy (F9 D) hr #[0,1,2]) (pT (pv 3)))],eX PassesOwn.never rfl (iA rfl D.T.iX #[bx cT az (aC D.qL (fV D) hr #[0,az])]) (bX 4) #v[aX 3 (oh (aC D.Uz (DC D) hr #[1,2]) (pT (pv 3)))],aM (pv 3)]
 all_goals try dsimp only[aS,aH]
 let O:Kh l U W U W H H:=⟨λs z=>z.elim .inl λy=>.inr (.inl y),λs R f _ _ _=>f,λ_ _ f=>f⟩;refine⟨2,1,by decide,by decide,?_⟩;refine jW (lo:=0) (n:=(2:Int).toNat) (λj k t=>∃ (b:Option V) (m g:Y1) (c:gG) (a:iD),k=[⇑↥l,⇑↥bu,⇑↥x,⇑(.bl true),b]/\pA fj cO dc d9 t l i bu x m g (List.replicate (j+1) []) [] (List.replicate (j+1) []) [] a c j []/\↑c<=60*j/\(∀ p∈c,Mu p)/\↑a=j/\Kh l U W m g H t) ⟨none,U,W,[],[],1,St,fH _,(λ_ z=>by cases z),1,O⟩ ?_ ?_
 ·rintro j k t M ⟨b,m,g,c,a,rfl,n,S,C,q,u⟩;let T:j<2:=M;refine⟨Y,Y,Y,l,i,bu,x,m,g,Q,_,a,c,j,[],1,n,(by rw[xo];lia),(by rw[xo];lia),(by show 0<=50;decide),by lia,by lia,by lia,λJ v h B L X O MR wA w F=>?_⟩;rw[← List.replicate_succ']at w;let G:∃ (b:Option V) (d e:Y1) (B:gG) (r:iD),[⇑↥l,⇑↥bu,⇑↥x,⇑(.bl true),⇑(V.int (0+(j:Int)))]=[⇑↥l,⇑↥bu,⇑↥x,⇑(V.bl true),b]/\pA fj cO dc d9 v l i bu x d e (List.replicate (j+1+1) []) [] (List.replicate (j+1+1) []) [] r B (j+1) []/\B.length<=60*(j+1)/\(∀ p∈B,Mu p)/\↑r=j+1/\Kh l U W d e H v:=⟨_,J,g,_,L,1,w,(by rw[dh,qS];lia),(λp o=>(List.mem_append.mp o).elim (C p) λz=>by let⟨y,I,rfl⟩:=List.mem_map.mp z;exact⟨X,MR y I⟩),by lia,u.trans (by let⟨I,o⟩:=n.src.lst;exact⟨_,o⟩) F⟩;exists true,1;rw[if_pos rfl];exact⟨Y,G⟩
 rintro k t ⟨b,m,g,c,a,rfl,n,S,C,q,u⟩;refine⟨Y,l,i,3,1,n.src,by decide,by decide,λJ v S X O t=>⟨Z,2+J,1,by lia,by lia,?_⟩⟩;let w:=n.mv (bN t) O
 let F:Kh l U W m g H v:=u.trans (by let⟨I,o⟩:=n.src.lst;exact⟨_,o⟩) ⟨λs z=>z.elim .inl λy=>.inr (.inl y),λs R f v _ _=>(bN t) _ _ f v,λs s f=>by
  let⟨I,o⟩:=n.src.lst
  exact (bN t) _ _ f (cS f o)⟩
 clear u;refine jW (lo:=0) (n:=(2+J).toNat) (λj k p=>∃ (b:Option V) (d e:Y1) (a:iD),k=[⇑↥l,⇑↥bu,⇑↥x,⇑(.bl true),b]/\pA fj cO dc d9 p l i bu x d e (uR j) (e0 j) (uR j) (e0 j) a c 2 []/\↑a=j+2/\Kh l U W d e H p) ⟨b,m,g,a,1,w,q,F⟩ ?_ ?_
 ·rintro j k p M ⟨b,d,e,a,rfl,B,q,L⟩;let T:j<4:=by lia
  refine⟨Y,Y,l,i,bu,x,d,e,Q,_,a,c,2,[],1,B,(by rw[Ah];lia),(by rw[Ah];lia),(by rw[xo];lia),1,by lia,⟨_,by rw[Kp];exact P9 ∅⟩,λs t f u m g v=>?_⟩;rw[Kp,← Mw]at g;let G:∃ (b:Option V) (m n:Y1) (r:iD),[⇑↥l,⇑↥bu,⇑↥x,⇑(.bl true),⇑(V.int (0+(j:Int)))]=[⇑↥l,⇑↥bu,⇑↥x,⇑(V.bl true),b]/\pA fj cO dc d9 f l i bu x m n (uR (j+1)) (e0 (j+1)) (uR (j+1)) (e0 (j+1)) r c 2 []/\↑r=j+1+2/\Kh l U W m n H f:=⟨_,s,t,u,1,g,by lia,L.trans (by let⟨I,o⟩:=B.src.lst;exact⟨_,o⟩) v⟩;exists true,1;rw[if_pos rfl];exact⟨Y,G⟩
 rintro k p ⟨b,d,e,a,rfl,B,q,L⟩;exact⟨Y,N d e p (2+J).toNat c a ∅ ∅ (by have:(2:Int).toNat=2:=rfl;lia) C q B L⟩
def TH(b:gG)(c:Wp)(a:Int):Nat:=if a∈c then 35 else ((b[a.toNat]?).map Prod.snd).getD 0
def Kq{d:gG}{e:Wp}{b:Row}(h:∀ y,y∈e↔In b y)(a:Int):TH d e a=kT d b 35 a:=by
 unfold TH kT;by_cases c:In b a
 ·rw[if_pos ((h a).mpr c),if_pos (iW.mpr c)]
 ·rw[if_neg λz=>c ((h a).mp z),if_neg λz=>c (iW.mp z)]
class inductive Gb
 | mk (W:Y1) (w o:Addr) (c:gG) (f:gZ) (g:dB) (d:Row) (b:Wp) (_:vs=[↥w,↥o]) (_:Wo 100 d W H w c f g) (_:H o=⇑(.lst (b.map V.int))) (_:↑b<=1000) (_:∀ a∈b,0<=a/\a<(↑c:Nat)) (_:∀ e,aJ H e->Q (.str (dY (b.map (kT c d 35)))) e)
theorem Ge:‹(1,105,["_law_world_here","_law_numbers"],Gb)›:=λD=>by
 specialize fm ["_law_world_here","_law_numbers","_law_signs","_law_number"] D.UB.F;let⟨W,bu,o,e,X,ab,f,g,rfl,M,s,ln,N,O⟩:=h;let v:=gR hr;exists _,#v[aX 2 (bJ ah),eX PassesOwn.never rfl (cM (pv 1)) (bX 3) #v[bO (aV vh (pv 3) (gu v (pv 0) bw) rfl) #v[aT (dX n8 jt ju bT (pv 2) #[bw])] #v[aT (dX n8 jt ju bT (pv 2) #[aP aZ (aP bH (gu v (pv 0) bw) (pv 3)) az])]],aM (dX PySem.F.plainAttrs_str PySem.F.slot_str_join PySem.F.type_str_join zu bw #[2])]
 all_goals try dsimp only[aS,aH]
 let⟨j,w,x,k,l⟩:=id M;let⟨y,R,z⟩:=id l.hi;let⟨B,S,_,C⟩:=l.hv;refine⟨iy,λq p=>?_⟩;let v:=ao p (.lst []);refine⟨Y,o,1,⟨_,bL.of (v _ _ s)⟩,eK (K:=bZ) (e:=o) (b:=g.map V.int) (λi m d=>∃ u:Option V,m=[⇑↥bu,⇑↥o,⇑↥q,u]/\d q=⇑(.lst (((g.take i).map (kT e f 35)).map qu))/\aJ H d) ⟨none,1,af,v⟩ (λi m d _ h=>by let⟨_,_,_,a⟩:=h;exact bL.of (a _ _ s)) ?_ ?_⟩
 ·rintro i ae m d F ⟨u,rfl,b,a⟩;rw[fK]at F;let⟨c,r,rfl⟩:=Option.map_eq_some_iff.mp F;let o:=(List.getElem?_eq_some_iff.mp r).1;let⟨o,s⟩:=N c (lK r)
  let G:((g.take (i+1)).map (kT e f 35)).map qu=((g.take i).map (kT e f 35)).map qu++[qu (kT e f 35 c)]:=by
   rw[take_snoc r,gP,gP];rfl
  let I:↑(((g.take i).map (kT e f 35)).map qu)<sizeLine:=aN (by rw[cC,cC,gm];lia);let e:=gW.k (k:=Mm) (a _ _ l.hw);rw[show cI (kX j w x k) Mm=⇑↥k by kernel_rfl]at e;exists Y,Y,bu,Y,e,k,Y,.inl (bL.of (a _ _ S)),1,nO B,Y;rw[uv];by_cases n:c∈B
  ·rw[decide_eq_true n];refine iF ⟨Y,.inl ⟨1,_,bL.of b⟩,q,Z,b,I,Y,?_,bP p a (aG q _ _)⟩;rw[af,G,← Kq C];unfold TH;rw[if_pos n];rfl
  ·rw[decide_eq_false n];obtain⟨t,e⟩:∃ t,y[c.toNat]?=⇑t:=⟨_,mS (by rw[Paired.length z];lia)⟩;let⟨f,T,U⟩:=j5 z e;let J:=gW.k (k:=kI) (a _ _ l.hw);rw[show cI (kX j w x k) kI=⇑↥j by kernel_rfl]at J;let L:=cP (a:=y.map V.ref) (j:=c.toNat) (v:=↥t) (by rw[fK,e];rfl);rw[show ((c.toNat:Nat):Int)=c by lia]at L;refine gp ⟨Y,.inl ⟨1,_,bL.of b⟩,Y,bu,Y,J,Y,j,Q,V,bL.of (a _ _ R),L,t,Q,V,dO.of (a _ _ U),Ht,q,Z,b,I,Y,?_,bP p a (aG q _ _)⟩;rw[af,G,← Kq C];unfold TH;rw[if_neg n,T];rfl
 ·rintro m d ⟨u,rfl,b,a⟩;rw[cC,gU]at b;exact⟨1,Y,q,Y,1,b,by rw[cC];lia,O d a⟩
def Mx(a:gG)(b:Int):Int:=((a[b.toNat]?).map Prod.fst).getD 0
def Qa{h:Int}:∀ {a:gG} {i:Nat} {y:Int},(i:Int)<=y->y<(i:Int)+↑a->(((a[(y-i).toNat]?).map Prod.fst).getD (h+1)=h->y∈lC h i a):=by
 intro a
 induction a with
 | nil=>intro i y c b;rw[pR]at b;lia
 | cons p r d =>
  intro i y c b e;rw[fE]at b;rw[lC];by_cases f:y=i
  ·subst f;let e:p.1=h:=by simpa using e
   rw[if_pos e];exact rY
  ·let z:y∈lC h (i+1) r:=d ∅ ∅ (by rw[show (y-(i:Int)).toNat=(y-((i+1:Nat):Int)).toNat+1 by lia,List.getElem?_cons_succ]at e;exact e);split
   ·exact kY _ z
   ·exact z
def Gf{a:gG}{h y:Int}(b:0<=y)(c:y<(↑a:Nat))(e:Mx a y=h):y∈lC h 0 a:=by
 refine Qa (i:=0) ∅ ∅ ?_;unfold Mx at e;rw[mS (show y.toNat<↑a by lia)]at e;rw[show (y-((0:Nat):Int)).toNat=y.toNat by lia,mS (show y.toNat<↑a by lia)];exact e
def Qc:∀ {r:Row} {a n:Int},uy r->(∀ p∈r,a<=p.1)->(∀ y,In r y->y<n)->a<=n+1->2*(↑r:Int)<=n-a+1:=by
 intro r
 induction r with
 | nil=>intro a n _ _ _ h;simp;lia
 | cons p r b =>
  intro a n R l i h;let c:=l p rY;let c:=R.2 p rY;let q:=List.pairwise_cons.mp R.1;let c:p.2-1<n:=i _ ⟨p,rY,by lia,by lia⟩;let z:=b (a:=p.2+1) (n:=n) ⟨q.2,λx b=>R.2 x (kY _ b)⟩ (λx b=>by have:=q.1 x b;lia) (λy ⟨x,b,z⟩=>i y ⟨x,kY _ b,z⟩) ∅;rw[fE];lia
def Kr{a:gG}{y:Int}{q:Int × Nat}(e:a[y.toNat]?=⇑q):Mx a y=q.1:=by unfold Mx;rw[e];rfl
def xH.aO{m:Nat}{aO n:Row}{W:Y1}{H g:Hp}{w rw z:Addr}{o:gG}{j:gZ}{p:dB}{h:Wp}(b:xH 100 aO W H w k rw l D o j p)(s:aJ H g)(u:H z=none)(r:g z=⇑(.lst (h.map V.int)))(v:↑h+m<=100*↑j)(x:∀ y,y∈h↔In n y):xH m n (λa=>W a\/a=z) (aL g w (.dK (kX k rw l z))) w k rw l z o j p:=by
 let t:∀ {a i},H a=⇑i->z≠a:=λe q=>by rw[← q,u]at e;cases e
 let d:=b.fr (λa i e _=>s _ _ e) λa c e=>s _ _ e;have f:∀ a c,g a=⇑(.lst c)->(aL g w (.dK (kX k rw l z))) a=⇑(.lst c):=λa c e=>by rw[aK (cS e d.hw)];exact e
 let⟨A,hp,al⟩:=id d.hp;let⟨F,B,_⟩:=b.hi;let⟨_,C,_⟩:=b.hp;refine⟨.inl b.ww,.inl b.wi,.inl b.wp,.inr rfl,λa q=>?_,af,d.hi.two (λc e=>f _ _ e) (λa c e=>by rw[aK (cS e d.hw)];exact e),d.hr.fr (λ_ y=>.inl y) λa c e _ _ _=>f _ _ e,⟨A,f _ _ hp,al.mono λA F ⟨a,e,y⟩=>⟨a,e,y.fr (λ_ y=>.inl y) λa c e _ _ _=>f _ _ e⟩⟩,b.ne,b.lst,⟨h,f _ _ r,v,x⟩,t B,t C⟩;rcases q with q|rfl
 ·by_cases e:a=w
  ·rw[e];exact⟨_,af⟩
  ·let⟨i,c⟩:=d.al a q;exact⟨i,by rw[aK e];exact c⟩
 ·exact⟨_,f _ _ r⟩
def My{l c w x rw z:Addr}{U d W:Y1}{H f i:Hp}{D:Nat}{t j:gZ}{u o:dB}{T G:iD}{g:gG}{v:Nat}{A p:Row}{B:Wp}(St:pA I J L M H l c w x U W t u j o T g v A)(k:xH 100 A W H w m rw n vl g j o)(_L2:nB I J L M d f x (t++[u]) G g v p)(r:uY U d H f)(h:aJ f i)(N:f z=none)(h3:i z=⇑(.lst (B.map V.int)))(lv:↑B+D<=100*↑j)(ab:∀ y,y∈B↔In p y):nB I J L M d (aL i w (.dK (kX m rw n z))) x (t++[u]) G g v p/\xH D p (λa=>W a\/a=z) (aL i w (.dK (kX m rw n z))) w m rw n z g j o/\dm (aL i w (.dK (kX m rw n z))) l c/\(∀ a,d a->¬ (W a\/a=z)/\a≠l/\a≠c)/\∀ a,W a\/a=z->a≠l/\a≠c:=by
 let s:∀ a b,H a=⇑b->¬ U a->¬ d a:=λa b e X y=>by
  rcases r.1 a y with y|y
  ·exact X y
  ·rw[e]at y;cases y
 let F:∀ a,W a->¬ U a:=λa y q=>(St.du a q).1 y;have O:xH 100 A W f w m rw n vl g j o:=k.fr (λa b e y=>r.2.1 _ _ e (F a y)) r.2.2;let⟨⟨X,hl⟩,l2,hc⟩:=St.src.has;have R:=St.src.kh r (λy=>(St.du l y).2.1 rfl) λy=>(St.du c y).2.2 rfl;let⟨⟨_,wA⟩,_,Qs⟩:=R.has;have C:∀ {a b},f a=⇑b->a≠z:=λe q=>by rw[q,N]at e;cases e
 let w3:=h _ _ O.hw
 let S:∀ a,d a->¬ (W a\/a=z)/\a≠l/\a≠c:=λa y=>by
  let⟨b,e⟩:=_L2.al y;refine⟨λq=>?_,λq=>?_,λq=>?_⟩
  ·rcases q with q|q
   ·let⟨X,e1⟩:=k.al a q;exact s a X e1 (F a q) y
   ·exact C e q
  ·subst q;exact s _ _ hl (λy=>(St.du _ y).2.1 rfl) y
  ·subst q;exact s _ _ hc (λy=>(St.du _ y).2.2 rfl) y
 refine⟨_L2.fr (λa b e y=>?_) (λa b e=>?_),O.aO h N h3 lv ab,(R.same h).keep (aG w _ _) (St.dw w k.ww).1.symm (St.dw w k.ww).2.symm,S,λa y=>?_⟩
 ·rw[aK λq=>(S a y).1 (.inl (by rw[q];exact k.ww))];exact h _ _ e
 ·rw[aK (cS (h _ _ e) w3)];exact h _ _ e
 ·rcases y with y|y
  ·exact St.dw a y
  ·rw[y];exact⟨(C wA).symm,(C Qs).symm⟩
theorem xH.le{k n:Nat}{aO:Row}{W:Y1}{H:Hp}{w rw:Addr}{a:gG}{b:gZ}{c:dB}(h:xH k aO W H w d rw e f a b c)(g:n<=k):xH n aO W H w d rw e f a b c:=⟨h.ww,h.wi,h.wp,h.wv,h.al,h.hw,h.hi,h.hr,h.hp,h.ne,h.lst,h.hv.imp λ_ z=>⟨z.1,by have:=z.2.1;lia,z.2.2⟩,h.nv⟩
class inductive Gg(C CS CW CB:Addr)
 | mk (l g w x:Addr) (U W:Y1) (c:gZ) (a:dB) (e:iD) (b:gG) (f:Nat) (h:Row) (_:vs=[↥l,↥w,↥x]) (_:pA C CS CW CB H l g w x U W c a c a e b f h) (_:↑c<=300) (_:↑a<=50) (_:↑e<=800) (_:↑b<=120) (_:f<64) (_:∀ p∈b,Mu p) (_:∀ y,In h y->0<=y/\y<(↑b:Nat)) (_:∀ (m n:Y1) (d:gZ) (i:Row) (j:iD) (k:Hp),↑d<=↑c+1->(∀ y∈d,y∈c\/y=a)->pA C CS CW CB k l g w x m n d a d a j b f i->↑j<=↑e+1->(∀ y,In i y->0<=y/\y<(↑b:Nat))->Q .gc k)
theorem Gh:‹(6,106,["_law_src_here","_law_world_here","_law_house"],(Gg fj cO dc d9))›:=λD=>by
 specialize fm ["_law_src_here","_law_world_here","_law_house","_law_row","_law_start","_law_stop","_law_hand","_law_numbers"] D.UC.F;let⟨B,R,bu,x,ae,W,n,l,aB,g,nW,aO,rfl,St,lp,lr,ll,li,lW,fh,iv,a1⟩:=h;let S:=gR hr;refine⟨_,#v[aX 3 (gD jy (aC D.WJ (qz D) hr #[0,1]) kg (gj az)),eX PassesOwn.never rfl (cM (pv 3)) (lg (n:=2) rfl (bS (bX 4) (bS (bX 5) gB))) #v[aX 6 (aP aZ (aP bH (gu S (pv 1) bw) (pv 4)) az),aX 7 (bJ #[4]),nG PassesOwn.never (PW.pt (pS (aV jR (bx cT (aP bH (pv 7) (ig fF az)) az) (pv 5) (bh _)) (mW (aV eE (aP aZ (aP bH (gu S (pv 1) bw) (bx cT (aP bH (pv 7) (ig fF az)) az)) az) (pv 6) (bh _))))) #v[aT (dX n8 jt ju bT (pv 7) #[bx cT (aP bH (pv 7) (ig fF az)) az])],aT (aC D.OE (m8 D) hr #[1,gu S (pv 1) bw]),bO (aV Bg (aC D.qL (fV D) hr #[0,az]) az (bh _)) #v[aT (cV (pv 2) D.aR D.iw (o6 D) hr bR #[6,bJ #[cZ #[4,bx cT (pv 4) (gg D.T.eV (pv 7))]]]),oA S (pv 1) bw (bx ja (gu S (pv 1) bw) (pv 7)) rfl] #v[aT (cV (pv 2) D.aR D.iT (o7 D) hr bR #[6,bJ #[cZ #[4,bx cT (pv 4) (gg D.T.eV (pv 7))]]]),oA S (pv 1) bw (gS (N:=["_law_number","_law_numbers"]) (kG (c:=cB sG) (f:=["_law_src_here","_law_world_here","_law_house","_law_row","_law_start","_law_stop","_law_hand","_law_numbers"]) (d:=[none,some 7]) rfl rfl rfl nofun nofun rfl nofun rfl nofun) rfl (cM (gu S (pv 1) bw)) (λ_ _ _ _ _ _=>(bX 0)) (λ_ _ _ _ _ _=>xQ (aV Hz (pv 0) (pv 1) rfl)) (λ_ _ _ _ _ _=>(pv 0))) rfl]]],?_⟩
 all_goals try dsimp only[aS,aH]
 refine⟨Y,Y,B,R,bu,W,g,n,l,1,St.src,St.wo,St.dw,by lia,λr0 ba H1 l2 Rr a2 fr S K1=>?_⟩;let Ax:=St.mv K1 S;let⟨j,uW,a3⟩:=id Rr;refine⟨Y,r0,Y,bL.of uW,λr hr=>?_⟩;let s2:=ao hr (.lst (ir (j.map V.ref) none (some 1)));let r2:(aL H1 r (.lst (ir (j.map V.ref) none (some 1)))) r=⇑(.lst (ir (j.map V.ref) none (some 1))):=af;let a4:r≠B:=(S.ne hr).1.symm;generalize aL H1 r (.lst (ir (j.map V.ref) none (some 1)))=H2 at s2 r2
 let ec:ir (j.map V.ref) none (some 1)=(j.take 1).map V.ref:=by
  unfold ir;rw[show _HT.gH ↑(j.map V.ref) 0 none=0 from rfl,show _HT.gH ↑(j.map V.ref) ↑(j.map V.ref) (some 1)=min 1 ↑(j.map V.ref) from rfl,List.drop_zero,List.map_take,Nat.sub_zero,← List.take_eq_take_min]
 rw[ec]at r2;let T:=Ax.same s2;refine⟨Y,r,1,⟨_,bL.of r2⟩,eK (K:=bZ) (e:=r) (b:=(j.take 1).map V.ref) (λak U u=>∃ (u4 u5 u6 u7:Option V),U=[⇑↥B,⇑↥bu,⇑↥x,⇑↥r,u4,u5,u6,u7]/\(ak=0->u=H2)/\u r=⇑(.lst ((j.take 1).map V.ref))/\∃ (o W':Y1) (v:gZ) (i:Row) (s:iD),↑v<=↑n+1/\(∀ y∈v,y∈n\/y=l)/\pA fj cO dc d9 u B R bu x o W' v l v l s g nW i/\↑s<=↑aB+1/\(∀ y,In i y->0<=y/\y<(↑g:Nat))) ⟨none,none,none,none,1,λ_=>rfl,r2,ae,W,n,aO,aB,by lia,λy b=>.inl b,T,by lia,iv⟩ (by rintro ak U u _ ⟨_,_,_,_,_,_,h,_⟩;exact bL.of h) ?_ ?_⟩
 ·rintro ak y U u hi ⟨u4,u5,u6,u7,rfl,h0,HV,_⟩
  let i0:ak=0:=by
   have:=(List.getElem?_eq_some_iff.mp hi).1;rw[cC,gm]at this;lia
  subst i0;obtain rfl:=h0 rfl;rw[fK]at hi;let⟨d,ea,rfl⟩:=Option.map_eq_some_iff.mp hi;let ea:j[0]?=⇑d:=by rw[List.getElem?_take_of_lt ∅]at ea;exact ea
  let⟨⟨a,en⟩,S,ha⟩:=a3.get ea;let⟨b1,b2,b3,b4⟩:=a2 _ (lK S);simp only at b1 b2 b3 b4;let⟨M,jr,ps,vl,wu⟩:=id T.wo;let⟨as,zW,pa⟩:=id wu.hi;obtain⟨ag,S⟩:∃ ag,as[a.toNat]?=⇑ag:=⟨_,mS (by rw[Paired.length pa];lia)⟩;let⟨p,ap,ht⟩:=j5 pa S;let GQ:=cP (a:=as.map V.ref) (j:=a.toNat) (v:=↥ag) (by rw[fK,S];rfl);rw[show ((a.toNat:Nat):Int)=a by lia]at GQ;let S:=gW.k (k:=kI) wu.hw;rw[show cI (kX M jr ps vl) kI=⇑↥M by kernel_rfl]at S;exists d,Y,dO.of (s2 _ _ ha),1,E,1,Z,Y,bu,Y,S,Y,M,Q,V,bL.of zW,GQ,ag,Q,V,dO.of ht,Hs;refine⟨Y,kH,λz hz=>?_⟩;let s4:=ao hz (.lst [.int a]);let z4:(aL u z (.lst [.int a])) z=⇑(.lst [.int a]):=af;generalize aL u z (.lst [.int a])=S at s4 z4;let zl:z≠B:=(T.src.ne hz).1.symm
  let au:∀ {e:Int},a<e->(run a (e-a).toNat).map V.int=(run a ((e-a).toNat-1)).map V.int++[.int (e-1)]:=λ{e} h=>by
   obtain⟨c,f⟩:∃ c,(e-a).toNat=c+1:=⟨(e-a).toNat-1,by lia⟩;rw[f,jD,gP,Nat.add_sub_cancel];rw[show e-1=a+(c:Int) by lia];rfl
  refine⟨λav U H5=>∃ e:Int,U=[⇑↥B,⇑↥bu,⇑↥x,⇑↥r,⇑(.int a),⇑(.int en),⇑(.int p.1),⇑↥z]/\H5 z=⇑(.lst ((run a (e-a).toNat).map V.int))/\a<e/\e<=en/\(∀ y,a<=y->y<e->Mx g y=p.1)/\av=(en-e).toNat/\aJ u H5,⟨_,a+1,1,by rw[z4,show (a+1-a).toNat=1 by lia];rfl,by lia,by lia,λy y1 y2=>by rw[show y=a by lia];exact Kr ap,1,s4⟩,?_⟩;rintro av U H5 ⟨e,rfl,h5,e1,e2,own,rfl,t⟩;let am:=h5;rw[au e1]at am;exists Y,Y,z,Q,V,bL.of am,gE _ _,Z,Y,Z,Y;refine CQ (p:=e-1+1<en) (q:=V.int (Mx g e)=V.int p.1) (λS q=>?_) (λcn=>?_) (λcn=>?_)
  ·obtain⟨c,f⟩:∃ ag,as[e.toNat]?=⇑ag:=⟨_,mS (by rw[Paired.length pa];lia)⟩;let⟨o,k,m⟩:=j5 pa f;let i:=cP (a:=as.map V.ref) (j:=e.toNat) (v:=↥c) (by rw[fK,f];rfl);rw[show ((e.toNat:Nat):Int)=e-1+1 by lia]at i;let f:=gW.k (k:=kI) (t _ _ wu.hw);rw[show cI (kX M jr ps vl) kI=⇑↥M by kernel_rfl]at f;rw[Kr k]at q;exact⟨Y,bu,Y,f,Y,Y,z,Q,V,bL.of am,gE _ _,Z,M,Q,V,bL.of (t _ _ zW),i,c,Q,V,dO.of (t _ _ m),Hs,Y,1,Y,q⟩
  ·let⟨f,c⟩:=cn;refine⟨fun f i=>_,fun f i z=>z,?_⟩;refine⟨Y,.inl ⟨1,_,bL.of h5⟩,Y,Y,z,Q,V,bL.of am,gE _ _,Z,z,Z,h5,(by rw[cC,dG];exact aN ∅),(en-(e+1)).toNat,by lia,e+1,1,?_,by lia,by lia,λy y1 y2=>?_,1,bP hz t (aG z _ _)⟩
   ·rw[af,au (e:=e+1) ∅,show (e+1-a).toNat-1=(e-a).toNat by lia,show e+1-1=e-1+1 by lia]
   ·by_cases f:y<e
    ·exact own y y1 f
    ·rw[show y=e by lia];exact V.int.inj c
  ·let Tw:=T.same t;let XD:=wu.fr (λd N e _=>t _ _ e) λd xs e=>t _ _ e;have S:=gW.k (k:=kR) XD.hw;rw[show cI (kX M jr ps vl) kR=⇑↥jr by kernel_rfl]at S;refine⟨Y,Y,bu,Y,S,W,bu,jr,g,n,l,l,1,⟨M,jr,ps,vl,XD⟩,by lia,λM S ⟨ag,ak,e⟩=>?_,λM a5 GH a6 wk=>?_⟩
   ·rw[XD.hw]at e;simp only[Option.some.injEq,HO.dK.injEq,kX,List.cons.injEq,Prod.mk.injEq,V.ref.injEq,true_and,and_true]at e;let⟨rfl,rfl,rfl,rfl⟩:=e;exact XD.hr
   let Ag:=Tw.kept a5 (λd y=>(Tw.du d y).1) Tw.dw GH a6
   let a7:¬ W z:=λy=>by
    let⟨N,e⟩:=wu.al z y;rw[hz]at e;cases e
   let a8:¬ W r:=λy=>by
    let⟨N,e⟩:=Ax.wo.al y;rw[hr]at e;cases e
   let h6:=GH _ _ h5 a7;let r6:=GH _ _ (t _ _ HV) a8;let⟨C,F,G,k,S⟩:=wk;refine⟨Y,B,R,3,1,Ag.src,by decide,by decide,λag H7 v0 v1 S7 M=>⟨Z,Y,?_⟩⟩;let Yq:=Ag.mv (bN M) S7;let h7:=(M z zl).trans h6;let r7:=(M r a4).trans r6;let⟨ak,ag⟩:=Ag.src.lst;let⟨X,ak,aw,ax⟩:=id S.hv;let am:↑X<=100*↑n:=by rw[dh,nC]at aw;lia
   let w7:=(S.le (n:=100) ∅).fr (λd N e y=>(M d (Ag.dw d y).1).trans e) (λd xs e=>(M d (cS e ag)).trans e);let v7:H7 k=⇑(.lst (X.map V.int)):=(M k (Ag.dw k S.wv).1).trans ak
   let aQ:¬ ae z:=λy=>by
    let⟨N,e⟩:=T.Kg.al y;rw[hz]at e;cases e
   let a9:¬ ae r:=λy=>by
    let⟨N,e⟩:=Ax.Kg.al y;rw[hr]at e;cases e
   let le:a+(↑((run a (e-a).toNat).map V.int):Int)=e:=by rw[cC,dG];lia
   let J:∀ y,In [(a,e)] y->a<=y/\y<e:=λy ⟨q,hq,q1,q2⟩=>by rw[List.mem_singleton.mp hq]at q1 q2;exact⟨q1,q2⟩
   let sp:bC [(a,e)]=run a (e-a).toNat:=by
    unfold bC;rw[List.flatMap_singleton];rfl
   let⟨M,S,d',WS,ag,ak,am,au,av,a2,Bf,Ej,a3,a4,a5,a6,a7,a8,FJ,LU⟩:=id Yq.Kg
   let M:2*(↑aO:Int)<=↑g+1:=by
    have:=Qc (a:=0) (n:=↑g) LU.pG (λp I=>(iv p.1 ⟨p,I,Int.le_refl _,LU.pG.2 p I⟩).1) (λy b=>(iv y b).2) ∅;lia
   let a0:∀ (S:Wp) {o:Y1} {H9 AD:Hp} {i:Row} {s:iD} {L:Addr} {M:Hp},aJ H7 H9->nB fj cO dc d9 o AD x (n++[l]) s g nW i->uY ae o H9 AD->aJ AD M->AD L=none->M L=⇑(.lst (S.map V.int))->↑S<=↑X+40->(∀ y,y∈S↔In i y)->↑s=↑aB+1->(∀ y,In i y->In aO y\/In [(a,e)] y)->M bu=⇑(.dK (kX C F G k))/\∃ (u4 u5 u6 u7:Option V),[⇑(V.ref B),⇑↥bu,⇑↥x,⇑↥r,⇑(.int a),⇑(.int en),⇑(.int p.1),⇑↥z]=[⇑↥B,⇑↥bu,⇑↥x,⇑↥r,u4,u5,u6,u7]/\(0+1=0->aL M bu (.dK (kX C F G L))=u)/\(aL M bu (.dK (kX C F G L))) r=⇑(.lst ((j.take 1).map V.ref))/\∃ (o W':Y1) (v:gZ) (i:Row) (s:iD),↑v<=↑n+1/\(∀ y∈v,y∈n\/y=l)/\pA fj cO dc d9 (aL M bu (.dK (kX C F G L))) B R bu x o W' v l v l s g nW i/\↑s<=↑aB+1/\(∀ y,In i y->0<=y/\y<(↑g:Nat)):=by
    intro S o H9 AD i s L M c ai m f ha j r ab I B;let O:=Yq.same c;let w:=w7.fr (λd N e _=>c _ _ e) λd xs e=>c _ _ e;let⟨e1,e2,I,M,N⟩:=My (D:=100) O w ai m f ha j (by rw[dh,nC];rw[dh,nC]at aw;lia) ab;have j:=f _ _ (m.2.1 _ _ w.hw λy=>(O.du bu y).1 w.ww);have r:=f _ _ (m.2.1 _ _ (c _ _ r7) a9);refine⟨j,Q,Y,λz=>by lia,by rw[aK (cS r j)];exact r,o,_,n++[l],i,s,by rw[dh];exact fH _,λy b=>(List.mem_append.mp b).elim .inl λz=>.inr (List.mem_singleton.mp z),⟨I,e1,lN,⟨Q,_,e2⟩,M,N⟩,by lia,λy b=>(B y b).elim (iv y) λz=>by have:=J y z;lia⟩
   refine dM (λ_=>?_) λ_=>?_
   ·refine⟨Y,x,d',Y,LU.L.hx,1,Y,Y,Y,Y,z,Y,.inl (bL.of h7),Z,mT,λf aq=>⟨kH,λq hq=>?_⟩⟩;let s8:=ao aq (.tup [.int a,.int (a+(↑((run a (e-a).toNat).map V.int):Int))]);let t8:(aL H7 f (.tup [.int a,.int (a+(↑((run a (e-a).toNat).map V.int):Int))])) f=⇑(.tup [.int a,.int e]):=by rw[af,le]
    generalize aL H7 f (.tup [.int a,.int (a+(↑((run a (e-a).toNat).map V.int):Int))])=H8 at s8 t8 hq;let XH:=ao hq (.lst [↥f]);let q9:(aL H8 q (.lst [↥f])) q=⇑(.lst [↥f]):=af;generalize aL H8 q (.lst [↥f])=H9 at XH q9;let c:=s8.trans XH;refine⟨ae,x,q,n,aB,g,nW,aO,[(a,e)],p.1,l,1,(Yq.same c).Kg,⟨[f],q9,.cons (XH _ _ t8) .nil⟩,⟨by show 1<=29;decide,λp I=>?_⟩,(fh p (lK ap)).1,List.all_eq_true.mpr λp I=>?_,lW,λy b=>Gf (by have:=J y b;lia) (by have:=J y b;lia) (own y (J y b).1 (J y b).2),by rw[nC];lia,T.lst,lr,by lia,by lia,λo AD i ai ab m=>?_⟩
    ·rw[List.mem_singleton.mp I];exact⟨⟨b1,by lia⟩,by show 0<=e;lia,by show e<_;lia⟩
    ·rw[List.mem_singleton.mp I];unfold MQ;rw[decide_eq_true b1,decide_eq_true e1,decide_eq_true (show e<=(↑g:Nat) by lia)];rfl
    let w:=w7.fr (λd N e _=>c _ _ e) λd xs e=>c _ _ e;have O:=Yq.same c;have XI:=m.2.1 _ _ w.hw λy=>(O.du bu y).1 w.ww;have an:=m.2.1 _ _ (c _ _ v7) λy=>(O.du k y).1 w.wv;have X0:=m.2.1 _ _ (c _ _ h7) aQ;have N:=gW.k (k:=Mm) XI;rw[show cI (kX C F G k) Mm=⇑↥k by kernel_rfl]at N;refine⟨Y,bu,Y,N,Y,k,z,Z,an,X0,(by rw[cC,cC,dG];exact gn (aN ∅)),λy b=>?_⟩;let⟨XJ,ar⟩:=a0 (X++run a (e-a).toNat) c ai m (ao b (.lst (X.map V.int++(run a (e-a).toNat).map V.int))) b (by rw[af,gP]) (by rw[dh,dG];lia) (λy=>by rw[List.mem_append,ax,← sp,jq];exact (ab y).symm) (by rw[dh];rfl) λy b=>(ab y).mp b;refine⟨Y,bu,Y,zf.k (k:=Mm) XJ (by show 4<sizeLine;decide),?_⟩;rw[show fk (kX C F G k) Mm ↥y=kX C F G y by kernel_rfl];exact ar
   ·refine⟨Y,x,d',Y,LU.L.hx,1,Y,Y,Y,Y,z,Y,.inl (bL.of h7),Z,mT,λf aq=>⟨kH,λq hq=>?_⟩⟩;let s8:=ao aq (.tup [.int a,.int (a+(↑((run a (e-a).toNat).map V.int):Int))]);let t8:(aL H7 f (.tup [.int a,.int (a+(↑((run a (e-a).toNat).map V.int):Int))])) f=⇑(.tup [.int a,.int e]):=by rw[af,le]
    generalize aL H7 f (.tup [.int a,.int (a+(↑((run a (e-a).toNat).map V.int):Int))])=H8 at s8 t8 hq;let XH:=ao hq (.lst [↥f]);let q9:(aL H8 q (.lst [↥f])) q=⇑(.lst [↥f]):=af;generalize aL H8 q (.lst [↥f])=H9 at XH q9;let c:=s8.trans XH;refine⟨ae,x,q,n,aB,g,nW,aO,[(a,e)],p.1,l,1,(Yq.same c).Kg,⟨[f],q9,.cons (XH _ _ t8) .nil⟩,⟨by show 1<=29;decide,λp I=>?_⟩,(fh p (lK ap)).1,List.all_eq_true.mpr λp I=>?_,lW,λy b=>Gf (by have:=J y b;lia) (by have:=J y b;lia) (own y (J y b).1 (J y b).2),by rw[nC];lia,T.lst,lr,by lia,by lia,λo AD i ai ab m=>?_⟩
    ·rw[List.mem_singleton.mp I];exact⟨⟨b1,by lia⟩,by show 0<=e;lia,by show e<_;lia⟩
    ·rw[List.mem_singleton.mp I];unfold MQ;rw[decide_eq_true b1,decide_eq_true e1,decide_eq_true (show e<=(↑g:Nat) by lia)];rfl
    let w:=w7.fr (λd N e _=>c _ _ e) λd xs e=>c _ _ e;have O:=Yq.same c;have XI:=m.2.1 _ _ w.hw λy=>(O.du bu y).1 w.ww;have an:=m.2.1 _ _ (c _ _ v7) λy=>(O.du k y).1 w.wv;have X0:=m.2.1 _ _ (c _ _ h7) aQ;have N:=gW.k (k:=Mm) XI;rw[show cI (kX C F G k) Mm=⇑↥k by kernel_rfl]at N;refine⟨Y,bu,Y,N,k,1,⟨_,bL.of an⟩,λL cJ=>Xs (K:=bZ) (f:=[⇑↥z]) (q:=λy=>!decide (y∈run a (e-a).toNat)) an ∅ cJ (λd y H5 f M t y2=>?_) λH5 h5 t=>?_⟩
    ·exists Y,Y,z,Y,.inl (bL.of (t _ _ X0)),1,nO _,Y;rw[if_pos rfl,uv];by_cases R:y∈run a (e-a).toNat
     ·rw[if_neg (by simp[R])]at y2 ⊢;exact y2
     ·rw[if_pos (by simp[R])]at y2 ⊢;exact⟨Y,y2⟩
    let d:=List.length_filter_le (λy=>!decide (y∈run a (e-a).toNat)) X;let⟨XJ,ar⟩:=a0 (X.filter λy=>!decide (y∈run a (e-a).toNat)) c ai m t cJ h5 ∅ (λy=>by rw[List.mem_filter,ax,ab,← jq (r:=[(a,e)]),sp];simp) (by rw[dh];rfl) λy b=>.inl ((ab y).mp b).1;refine⟨Y,bu,Y,zf.k (k:=Mm) XJ (by show 4<sizeLine;decide),?_⟩;rw[show fk (kX C F G k) Mm ↥L=kX C F G L by kernel_rfl];exact ar
 ·rintro U u ⟨u4,u5,u6,u7,rfl,_,_,o,W',v,i,s,q1,q2,a,b,c⟩;exact a1 o W' v i s u q1 q2 a b c
def XM{b:Bool}{q A B T:Prop} [Decidable q] (w:b=false->(if decide q=true then A else B)->T) (a:b=true\/q->A) (d:b=false->¬ q->B):if b=true then (if true=true then A else B) else T:=by
 cases b with
 | true=>rw[if_pos rfl,if_pos rfl];exact a (.inl rfl)
 | false =>
  rw[if_neg lT];refine w rfl ?_;by_cases c:q
  ·rw[if_pos (decide_eq_true c)];exact a (.inr c)
  ·rw[decide_eq_false c,if_neg lT];exact d rfl c
theorem TJ{b a:List Nat}(h:a=[]):Xu b a=[]:=if_pos h
def TL{a b:List Nat}(h:b≠[]):Xu a b=(run 0 ((↑a:Int)-↑b+1).toNat).filter (xG a b):=by
 rw[Xu,if_neg h];let c:0<↑b:=List.length_pos_iff.mpr h;generalize c:((↑a:Int)-↑b+1).toNat=k;let c:k<=↑a:=by lia
 let e:run 0 k=(run 0 ↑a).take k:=by rw[yZ,Nat.min_eq_left c]
 rw[e,← List.take_append_drop k (run 0 ↑a),List.filter_append,List.take_append_drop]
 have:((run 0 ↑a).drop k).filter (xG a b)=[]:=by
  rw[yY];refine List.filter_eq_nil_iff.mpr λy c z=>?_;have d:=ux.mp c;have z:=congrArg List.length (of_decide_eq_true z);rw[gm,l9]at z;lia
 rw[this,gV]
def TM{c:Type}{a b:List c}{k:Nat}{x y:c}(d:a[k]?=⇑x)(e:b[k]?=⇑y):a.take (k+1)=b.take (k+1)↔a.take k=b.take k/\x=y:=by
 rw[take_snoc d,take_snoc e];refine⟨λz=>?_,λ⟨f,g⟩=>by rw[f,g]⟩;have:=List.append_inj' z rfl;exact⟨this.1,List.cons.inj this.2 |>.1⟩
class inductive Gi
 | mk (W:Y1) (w o:Addr) (d:gG) (g:gZ) (h:dB) (f:Row) (b:Wp) (c:List Nat) (_:vs=[↥w,↥o,.str (dY c)]) (_:Wo 100 f W H w d g h) (_:H o=⇑(.lst (b.map V.int))) (_:↑b<=1000) (_:∀ a∈b,0<=a/\a<(↑d:Nat)) (_:↑c<=1000) (_:∀ y∈c,y≠10) (_:∀ (r:Addr) (e:Hp),H r=none->e r=⇑(.lst ((Xu (b.map (kT d f 10)) c).map V.int))->aJ H e->Q ↥r e)
theorem DG:‹(1,107,["_law_world_here","_law_numbers","_law_word"],Gi)›:=λD=>by
 specialize fm ["_law_world_here","_law_numbers","_law_word","_law_due","_law_place","_law_reads","_law_k","_law_number"] D.UD.F;let⟨W,bu,s,B,pe,an,C,l,a,rfl,wo,R,ln,ag,lc,MR,S⟩:=h;let T:=gR hr;refine⟨_,#v[aX 3 (bJ ah),eX PassesOwn.never rfl (iA rfl D.T.iX #[bx cT (bx dD (gg D.T.eV (pv 1)) (bU ic rfl D.T.eV PySem.boot_len #[2])) az]) (bX 4) #v[aX 5 (jw Bg (bU ic rfl D.T.eV PySem.boot_len #[2]) az (bh _)),eX PassesOwn.never rfl (iA rfl D.T.iX #[bU ic rfl D.T.eV PySem.boot_len #[2]]) (bX 6) #v[aX 7 (aP bH (pv 1) (bx cT (pv 4) (pv 6))),bO (PW.pt (Ec (aV vh (pv 7) (gu T (pv 0) bw) rfl) (Cy (aV Jo (aP aZ (aP bH (gu T (pv 0) bw) (pv 7)) az) (aP G7 (pv 2) (pv 6)) (bh _))))) #v[aX 5 nF] bg],bO (jd (pv 5) (λ_=>rfl)) #v[aT (dX n8 jt ju bT (pv 3) #[4])] bg],aM (pv 3)],?_⟩
 all_goals try dsimp only[aS,aH]
 let⟨t,U,X,u,v⟩:=id wo;let⟨as,zW,pa⟩:=id v.hi;let⟨F,Mn,_,ai⟩:=v.hv;let T:=Paired.length pa;refine⟨iy,λq G=>?_⟩;let s1:=ao G (.lst []);generalize ab:l.map (kT B C 10)=b at S;let ak:↑b=↑l:=by rw[← ab,cC]
 exists Y,s,Y,.inl (bL.of (s1 _ _ R)),Y,dY a,1,(by rw[eZ];exact gn (aN ∅)),Z,Z;rw[eZ,cC];generalize hv:(↑l:Int)-↑a+1=T
 refine⟨T,1,by lia,by lia,jW (lo:=0) (n:=T.toNat) (λi k m=>∃ I J f g:Option V,k=[⇑↥bu,⇑↥s,⇑(.str (dY a)),⇑↥q,I,J,f,g]/\m q=⇑(.lst ((if a=[] then [] else (run 0 i).filter (xG b a)).map V.int))/\aJ H m) ⟨none,none,none,none,1,by rw[af];split <;> rfl,s1⟩ ?_ ?_⟩
 ·rintro i k m hi ⟨I,J,f,g,rfl,o,e⟩;exists Y,dY a,1,(by rw[eZ];exact gn (aN ∅)),Z;refine⟨Y,dY a,1,(by rw[eZ];exact gn (aN ∅)),(↑a:Nat),by rw[eZ],by lia,by lia,jW (lo:=0) (n:=((↑a:Nat):Int).toNat) (λj k L=>∃ f g:Option V,k=[⇑↥bu,⇑↥s,⇑(.str (dY a)),⇑↥q,⇑(.int (0+(i:Int))),⇑(.bl (decide (0<↑a/\(b.drop i).take j=a.take j))),f,g]/\L=m) ⟨f,g,by rw[show decide ((0:Int)<(↑(dY a):Nat))=decide (0<↑a/\(b.drop i).take 0=a.take 0) from decide_eq_decide.mpr (by rw[eZ];exact⟨λz=>⟨by lia,1⟩,λz=>by lia⟩)];rfl,1⟩ ?_ ?_⟩
  ·rintro j k L hj ⟨f,g,rfl,rfl⟩;let T:j<↑a:=by lia
   let il:i+j<↑l:=by lia
   obtain⟨d,M⟩:∃ d,l[i+j]?=⇑d:=⟨_,mS il⟩;let⟨a0,a1⟩:=ag d (lK M);obtain⟨c,N⟩:∃ c,a[j]?=⇑c:=⟨_,mS T⟩;let cc:=MR c (lK N);obtain⟨w,et⟩:∃ w,as[d.toNat]?=⇑w:=⟨_,mS ∅⟩;let⟨p,ep,ht⟩:=j5 pa et;let ae:=cP (a:=l.map V.int) (j:=i+j) (v:=.int d) (by rw[fK,M];rfl);rw[show ((i+j:Nat):Int)=0+(i:Int)+(0+(j:Int)) by lia]at ae;let zv:=gW.k (k:=Mm) (e _ _ v.hw);rw[show cI (kX t U X u) Mm=⇑↥u by kernel_rfl]at zv;let zi:=gW.k (k:=kI) (e _ _ v.hw);rw[show cI (kX t U X u) kI=⇑↥t by kernel_rfl]at zi;let GQ:=cP (a:=as.map V.ref) (j:=d.toNat) (v:=↥w) (by rw[fK,et];rfl);rw[show ((d.toNat:Nat):Int)=d by lia]at GQ;let am:(b.drop i)[j]?=⇑(kT B C 10 d):=by rw[List.getElem?_drop,← ab,fK,M];rfl
   let O:=TM am N;let v:=ai d
   let sg:kT B C 10 d=c↔¬ (decide (d∈F)=true\/p.2≠c):=by
    unfold kT;by_cases l:d∈F
    ·rw[if_pos (iW.mpr (v.mp l))];exact⟨λz=>absurd z.symm cc,λz=>absurd (.inl (decide_eq_true l)) z⟩
    ·rw[if_neg λz=>l (v.mpr (iW.mp z)),ep];exact⟨λz y=>y.elim (λy=>l (of_decide_eq_true y)) λy=>y z,λz=>Classical.byContradiction λn=>z (.inr n)⟩
   exists Y,Y,Y,Z,s,Q,V,bL.of (e _ _ R),ae;exists Y,Y,bu,Y,zv,u,Y,.inl (bL.of (e _ _ Mn)),1,nO F,Y;rw[uv];refine XM (q:=p.2≠c) (λ_ z=>?_) (λx=>?_) (λx c2=>?_)
   ·exists Y,bu,Y,zi,Y,t,Q,V,bL.of (e _ _ zW),GQ,w,Q,V,dO.of (e _ _ ht),Ht,Y,Y,E,c,V,(by rw[eZ];exact gn (aN ∅)),by rw[show (0:Int)+(j:Int)=(j:Nat) by lia];exact cP (by simpa [dY] using N),rfl,Y
    rw[show (!decide (qu p.2=V.str ⟨(List.toArray [c])⟩))=decide (p.2≠c) by by_cases r:p.2=c <;> simp[qu,r]]
    exact z
   ·let n:decide (0<↑a/\(b.drop i).take (j+1)=a.take (j+1))=false:=decide_eq_false λz=>sg.mp (O.mp z.2).2 x;rw[n];exact⟨Z⟩
   ·let n:decide (0<↑a/\(b.drop i).take (j+1)=a.take (j+1))=decide (0<↑a/\(b.drop i).take j=a.take j):=decide_eq_decide.mpr ⟨λz=>⟨z.1,(O.mp z.2).1⟩,λz=>⟨z.1,O.mpr ⟨z.2,sg.mpr λy=>y.elim (λy=>by rw[y]at x;cases x) c2⟩⟩⟩;rw[n];exact⟨Z⟩
  ·rintro k L ⟨f,g,rfl,rfl⟩;exists Y,Y
   let j:decide (0<↑a/\(b.drop i).take ((↑a:Nat):Int).toNat=a.take ((↑a:Nat):Int).toNat)=(decide (0<↑a)&&xG b a i):=by
    rw[show ((↑a:Nat):Int).toNat=↑a by lia,gU,xG,Bool.decide_and,show ((i:Nat):Int).toNat=i by lia]
   rw[j];let e0:(0:Int)+(i:Int)=i:=by lia
   cases r:(decide (0<↑a)&&xG b a i) with
   | true =>
    let⟨n,d⟩:=(Bool.and_eq_true _ _).mp r;let c:a≠[]:=λz=>by rw[z]at n;cases n
    refine iF ⟨Y,.inl ⟨1,_,bL.of o⟩,Y,q,Z,o,?_,Q,Y,?_,bP G e (aG q _ _)⟩
    ·rw[if_neg c,cC];have:=List.length_filter_le (xG b a) (run 0 i);rw[dG]at this;exact aN ∅
    ·rw[af,if_neg c,if_neg c,jD,List.filter_append,List.filter_cons_of_pos (by rw[e0];exact d),gP];rfl
   | false =>
    refine gp ⟨Q,Y,?_,e⟩;rw[o];by_cases c:a=[]
    ·rw[if_pos c,if_pos c]
    ·let d:xG b a i=false:=by
      rw[decide_eq_true (List.length_pos_iff.mpr c)]at r;exact r
     rw[if_neg c,if_neg c,jD,List.filter_append,List.filter_cons_of_neg (by rw[e0,d];exact lT),List.filter_nil,gV]
 ·rintro k m ⟨I,J,f,g,rfl,o,e⟩;refine⟨Y,S q m G ?_ e⟩;rw[o];by_cases c:a=[]
  ·rw[if_pos c,TJ c]
  ·rw[if_neg c,TL c,ak,hv]
def DH{n m:Nat}(h:m<=40):Good n (e0 m):=by
 refine⟨λc a e b=>?_,P8 m,by rw[xo];exact h,λ_=>0,λx c _ a=>?_,λ_ _ _=>(by decide:(0:Int)<=200)⟩
 ·rw[v9 a]at b;cases b
 ·rw[v9 (lK a)];rfl
theorem Mz{n m:Nat}(h:n<=40):∀ y∈uR n,Good m y:=λy a=>by
 unfold uR at a;rcases List.mem_append.mp a with z|z
 ·have:y=[]:=by simpa using z
  rw[this];exact DH (m:=0) ∅
 ·let⟨k,b,rfl⟩:=List.mem_map.mp z;have:=List.mem_range.mp b;exact DH ∅
inductive QB(C CS CW CB l c x w:Addr)(b:Nat)(H:Hp):Prop
 | mk (U W:Y1) (e:gZ) (d:dB) (f:iD) (a:gG) (g:Row) (_:pA C CS CW CB H l c w x U W e d e d f a 2 g) (_:1<=↑d) (_:↑d<=4) (_:↑e<=20+2*b) (_:↑f<=20+2*b) (_:↑a<=120) (_:∀ p∈a,Mu p) (_:∀ y,In g y->0<=y/\y<(↑a:Nat)) (_:Good ↑a d) (_:∀ y∈e,Good ↑a y)
def QB.mv{l c x w:Addr}{b:Nat}{H a:Hp}(h:QB C d e f l c x w b H)(k:cF l H a)(g:dm a l c):QB C d e f l c x w b a:=by
 let⟨U,W,i,j,m,n,o,St,p,q,r,s,t,u,v,y,z⟩:=h;exact⟨U,W,i,j,m,n,o,St.mv k g,p,q,r,s,t,u,v,y,z⟩
def QB.src{l c x w:Addr}{b:Nat}{H:Hp}(h:QB C a d e l c x w b H):dm H l c:=by
 let⟨_,_,_,_,_,_,_,St,_⟩:=h;exact St.src
theorem QB.same{l c x w:Addr}{b:Nat}{H a:Hp}(h:QB C d e f l c x w b H)(s:aJ H a):QB C d e f l c x w b a:=h.mv (λg o i _=>s g o i) (h.src.same s)
def pF(C f g h:Addr):TS:=λD d H=>∃ (l i w x:Addr) (j k m n o p:Option V) (U W:Y1) (c:gZ) (a:dB) (e:iD) (b:gG) (q:Row),d=[j,⇑↥l,⇑↥x,⇑↥w,k,m,n,o,p]/\pA C f g h H l i w x U W c a c a e b 2 q/\↑c<=300/\↑a<=50/\↑e<=800/\↑b<=120/\(∀ d∈b,Mu d)/\(∀ y,In q y->0<=y/\y<(↑b:Nat))/\∀ (u v:Y1) (d:gZ) (r:Row) (s:iD) (t:Hp),↑d<=↑c+1->(∀ y∈d,y∈c\/y=a)->pA C f g h t l i w x u v d a d a s b 2 r->↑s<=↑e+1->(∀ y,In r y->0<=y/\y<(↑b:Nat))->D.nx [j,⇑↥l,⇑↥x,⇑↥w,k,m,n,o,p] t
def kt:TS:=λD b H=>∃ (l d:Addr) (e f g h i j k:Option V) (a:List Nat),b=[e,⇑↥l,f,g,h,i,j,k,⇑(.str (dY a))]/\dm H l d/\↑a<=900/\(∀ y∈a,y≠10)/\∀ (b:List Nat) (c:Hp),b.length<=↑a+3->(∀ y∈b,y≠10)->dm c l d->cF l H c->D.nx [e,⇑↥l,f,g,h,i,j,k,⇑(.str (dY b))] c
def Qe(D:bW)(a5:Ny bZ "law" "law" NG WL WM):bq c9 bu bZ cW cU cR 48 WL WM ["_law_script"] (Eo bZ):=by
 let MA:bq c9 bu bZ cW cU cR 1 _ _ ["_law_script"] (Ug bZ):=HU D;let i:bq c9 bu bZ cW cU cR 1 _ _ ["_law_src_here","_law_base"] sM:=fV D;let uS:bq c9 bu bZ cW cU cR 3 _ _ ["self"] (Co fj cO dc d9):=qX D;let Gj:bq c9 bu bZ cW cU cR 1 _ _ [] Ke:=Du D;let Gk:bq c9 bu bZ cW cU cR 9 _ _ ["_law_src_here","_law_world_here","_law_house"] (Ai fj cO dc d9):=DE D;let Iv:bq c9 bu bZ cW cU cR 46 _ _ ["_law_src_here","_law_world_here","_law_house"] (F6 fj cO dc d9):=F7 D (F5 D) (DB D) (F3 D) (F4 D);let QC:bq c9 bu bZ cW cU cR 5 _ _ ["self","hand","row"] (xY fj cO dc d9 eI Or):=o6 D;let QD:bq c9 bu bZ cW cU cR 5 _ _ ["self","hand","row"] (xY fj cO dc d9 eJ λa g=>a/\¬ g):=o7 D;let Iw:bq c9 bu bZ cW cU cR 6 _ _ ["_law_src_here","_law_world_here","_law_house"] (Gg fj cO dc d9):=Gh D;let tw:bq c9 bu bZ cW cU cR 42 _ _ ["_law_rows","_law_sheet"] (zY 41):=iR D 41;let Iz:bq c9 bu bZ cW cU cR 1 _ _ ["_law_world_here","_law_numbers"] Gb:=Ge D;let IA:bq c9 bu bZ cW cU cR 3 _ _ ["_law_src_here","_law_many"] Ka:=xg D;let Gm:bq c9 bu bZ cW cU cR 1 _ _ ["_law_world_here","_law_numbers","_law_word"] Gi:=DG D;let Aj:bq c9 bu bZ cW cU cR 6 _ _ ["self","sheet","word"] (J9 fj cO dc d9):=vX D;let sU:bq c9 bu bZ cW cU cR 5 _ _ ["_law_found_here","_law_due"] (yU 4):=m6 D 4;refine fm ["_law_script","_law_src_here","_law_house","_law_world_here","_law_k","_law_sheet","_law_numbers","_law_place","_law_word"] a5 λdF bn zn s I vs Q E b _ a6=>?_;let⟨a,j,rfl,hS,bn,k⟩:=a6;have hu:=gR b;refine⟨_,#v[aX 1 (aC D.gt MA b #[0]),aX 2 (nJ D.aR.X9 uS (b.mono (by decide)) rfl D.aR.m D.hU.b .nil bR),aX 3 (Nc Gj (b.mono (by decide)) rfl D.Sg.m D.Sg.F.kp D.Sg.b .nil bR),aT (aC D.UA Gk b #[1,3,2]),eX PassesOwn.never rfl (iA rfl D.T.iX #[aC D.qL i b #[1,az]]) (bX 4) #v[bO (kZ (mh (aC D.Ux Iv b #[1,3,2]))) #v[aM nF] bg,vo (c:=pF fj cO dc d9) (bO (aV eE (aC D.qL i b #[1,az]) az (bh _)) #v[aT (aC D.UC Iw b #[1,3,2])] bg) ?b1,aX 5 (aC D.qL i b #[1,gg D.T.eV (gu hu (pv 3) bw)]),aX 6 (aC D.E7 tw b #[gu hu (pv 3) bw,5]),aX 7 (aC D.qL i b #[1,bx cT (gg D.T.eV (pv 6)) az]),aX 8 (aC D.UB Iz b #[3,gD jy (pv 6) (gj (pv 7)) (gj (bx cT (pv 7) (aC D.qL i b #[1,aP bH (bJ #[az,az,az]) (aC D.qL i b #[1,az])])))]),vo (c:=kt) (bO (aV eE (aC D.qL i b #[1,az]) az (bh _)) #v[aX 8 (bx RU (gD _gX.Oz (pv 8) kg (gj (ig fF az))) bw)] bg) ?b2,vo (c:=kt) (bO (aV eE (aC D.qL i b #[1,az]) az (bh _)) #v[aX 8 (aC D.WD IA b #[1,aC D.qL i b #[1,az]])] bg) ?b3,bO (kZ (mh (aC D.ZT sU b #[cV (pv 2) D.aR D.i3 Aj b bR #[5,8],aC D.UD Gm b #[3,6,8]]))) #v[aM nF] bg],aM nF],?_⟩
 all_goals try dsimp only[aS,aH]
 case b1 =>
  rintro D v I ⟨l,c,bu,x,o,w,A,B,C,R,U,W,S,an,T,e,J,rfl,St,lp,lr,ll,li,L,X,k⟩;refine⟨Y,l,c,2,1,St.src,by decide,by decide,λM n _ _ h f=>⟨1,Y,dM (λ_=>?_) λ_=>k U W S J T n ∅ (λy g=>.inl g) (St.mv (bN f) h) ∅ X⟩⟩;exact⟨Y,Y,Y,l,c,bu,x,U,W,S,an,T,e,2,J,1,St.mv (bN f) h,lp,lr,ll,li,by decide,L,X,λb i m p q r a g t d u=>k b i m p q r a g t d u⟩
 case b2 =>
  rintro D v I ⟨l,c,o,p,q,w,A,B,C,d,rfl,S,r,e,k⟩;refine⟨Y,l,c,3,1,S,by decide,by decide,λM n _ _ h f=>⟨1,Y,dM (λ_=>?_) λ_=>k d n ∅ e h (bN f)⟩⟩;let b:∀ y∈_gX.xy d none (⇑(-1)),y∈d:=λy g=>List.mem_of_mem_drop (xq g)
  let i:↑(_gX.xy d none (⇑(-1)))<=↑d:=by
   unfold _gX.xy;rw[gm,l9];lia
  refine⟨Y,Y,Y,d,1,by lia,_,[111],1,(by rw[show Str.ofString "o"=dY [111] by decide +kernel]),by show _+1<=_;lia,?_⟩;exact k _ n (by rw[dh];show _+1<=_;lia) (λy g=>(List.mem_append.mp g).elim (λz=>e y (b y z)) λz=>by rw[List.mem_singleton.mp z];decide) h (bN f)
 case b3 =>
  rintro D v I ⟨l,c,o,p,q,w,A,B,C,d,rfl,S,r,e,k⟩;refine⟨Y,l,c,3,1,S,by decide,by decide,λM n _ _ h f=>⟨1,Y,dM (λ_=>?_) λ_=>k d n ∅ e h (bN f)⟩⟩;refine⟨Y,Y,l,c,4,1,h,by decide,by decide,λm H2 m0 m1 S2 k2=>?_⟩;refine⟨l,c,m.toNat,by rw[show ((m.toNat:Nat):Int)=m by lia];rfl,S2,by lia,λab H3 e c2 b d=>?_⟩;exact k ab H3 ∅ c2 b (((bN f).trans (bN k2)).trans d)
 refine⟨Y,a,j,1,hS,λl c n h b _ _=>?_⟩;intro x b fx i _;refine⟨x,b,1,af,λU H2 _L2 fU k2=>⟨1,?_⟩⟩;let b:=l5 fx i k2;let S2:=h.same b
 let a7:∀ a,U a->n a=none:=λa z=>by
  rcases fU a z with y|y
  ·rw[y];exact fx
  ·exact nZ y
 refine⟨1,λW bu H3 i fW b=>?_⟩
 let U6:pA fj cO dc d9 H3 l c bu x U W [[]] [] [[]] [] [] [] 0 []:=by
  refine⟨S2.same b,_L2.same b,1,i,λa z=>⟨λy=>?_,?_⟩,λa z=>?_⟩
  ·let⟨m,d⟩:=_L2.al z;rw[fW a y]at d;cases d
  ·let n:=h.ne (a7 a z);exact⟨n.1.symm,n.2.symm⟩
  ·let n:=S2.ne (fW a z);exact⟨n.1.symm,n.2.symm⟩
 refine⟨Y,Y,Y,l,c,bu,x,U,W,1,U6,λh i H4 n e a6 n2 n4 li lf a7 b _=>?_⟩;let lb:=Ah n;refine⟨Y,l,c,9,1,b.src,by decide,by decide,λM H6 v0 v1 S6 k6=>⟨M,1,by lia,by lia,?_⟩⟩;refine jW (lo:=0) (n:=M.toNat) (λo v I=>∃ w A B C R:Option V,v=[⇑↥a,⇑↥l,⇑↥x,⇑↥bu,w,A,B,C,R]/\QB fj cO dc d9 l c x bu o I) ⟨none,none,none,none,none,1,h,i,uR n,e0 n,a6,e,[],b.mv (bN k6) S6,by rw[xo];lia,by rw[xo];lia,by lia,by lia,by lia,lf,(λ_ ⟨_,z,_⟩=>by cases z),DH ∅,Mz ∅⟩ ?_ ?_
 ·rintro o v H6 hj ⟨w,A,B,C,R,rfl,U,W,S,an,T,e,J,St,r1,r2,b1,b2,b3,L,X,b,ga⟩;let h:o<9:=by lia
  refine⟨Y,Y,Y,l,c,bu,x,U,W,S,an,T,e,2,J,1,St,r1,by lia,by lia,by lia,b,λb h i r n M I lr lp ll ae a8=>⟨true,1,gp ?_⟩⟩;refine⟨l,c,bu,x,Q,Q,b,h,i,r,n,e,J,1,I,by lia,by lia,by lia,by lia,L,X,λU2 W2 ag F DF H8 b a9 G h ba=>?_⟩
  let bb:∀ y∈ag,Good ↑e y:=λy g=>by
   rcases a9 y g with z|z
   ·rcases a8 y z with z|z
    ·exact ga y z
    ·rw[z];exact ae
   ·rw[z];exact ae
  let M:QB fj cO dc d9 l c x bu (o+1) H8:=⟨U2,W2,_,r,DF,e,F,G,by lia,by lia,by lia,by lia,b3,L,ba,ae,bb⟩;let⟨f,p⟩:=ae.UY;let⟨rk,rb,dn⟩:=id p.sn.rk;let b:=p.ln;let⟨i,H,n,I,h⟩:=id G.wo;let⟨S,J,b⟩:=id h.hr.at_;let T:=cG.len b;let b:=gW.k (k:=kR) h.hw;rw[show cI (kX i H n I) kR=⇑↥H by kernel_rfl]at b;refine⟨Y,Y,bu,Y,b,H,Y,.inl (bL.of J),l,c,Y,G.src,by lia,by lia,λs T U X J b=>?_⟩;let Qd:=G.mv (bN b) J;let i9:=M.mv (bN b) J;let⟨M,J⟩:=G.src.lst;let as:=h.fr (λa m d y=>(b a (G.dw a y).1).trans d) (λa S d=>(b a (cS d J)).trans d);let au:=gW.k (k:=kR) as.hw;rw[show cI (kX i H n I) kR=⇑↥H by kernel_rfl]at au;obtain⟨d,rfl⟩:∃ d:Nat,s=d:=⟨s.toNat,by lia⟩;let t:qR r.length ((d:Nat):Int):=⟨by lia,by lia⟩;let b:=p.sl _ t.1 t.2;refine⟨Y,bu,Y,au,Y,_,H,r,(d:Nat),_,rk,1,as.hr.at_,by lia,p.sn.sd,t.1,t.2,p.sn.ss,p.sn.ln,dn,by have:=rb d;lia,λu i h b G=>?_⟩;let i:=Qd.same b;let H:=i9.same b;refine⟨Y,Y,u,Y,.inl (bL.of h),Z,l,c,Y,i.src,by lia,by rw[cC];lia,λq JN I J n b=>?_⟩;let ai:u≠l:=(Qd.src.ne G).1.symm;let av:=i.mv (bN b) n;let bc:=H.mv (bN b) n;let be:=(b u ai).trans h;refine⟨Y,Y,Y,Y,Y,Y,LA,λN b=>?_⟩;let jE:=ao b (.lst [.int 5,.int 5,.int 24]);let aw:(aL JN N (.lst [.int 5,.int 5,.int 24])) N=⇑(.lst [.int 5,.int 5,.int 24]):=af;let nt:=av.src.ne b;generalize aL JN N (.lst [.int 5,.int 5,.int 24])=b at jE aw;let b:=av.same jE;refine⟨Y,l,c,3,1,b.src,by decide,by decide,λi n h G ap ak=>?_⟩;let bi:=b.mv (bN ak) ap;let⟨zz,bj,ez⟩:=zX (a:=[V.int 5,.int 5,.int 24]) h (by show i<3;lia)
  obtain⟨tn,rfl,LZ,W0⟩:∃ o:Int,zz=.int o/\1<=o/\o<=24:=by
   rcases List.mem_cons.mp bj with q|g
   ·exact⟨5,q,by decide,by decide⟩
   rcases List.mem_cons.mp g with q|g
   ·exact⟨5,q,by decide,by decide⟩
   ·exact⟨24,List.mem_singleton.mp g,by decide,by decide⟩
  exists N,Q,V,bL.of ((ak N nt.1.symm).trans aw),ez;refine⟨l,c,Y,ap,by lia,by lia,λm ax m0 m1 aQ aq=>?_⟩;let bm:=bi.mv (bN aq) aQ;let a2:=(aq u ai).trans ((ak u ai).trans (jE _ _ be));refine⟨Z,Y,u,Y,bL.of a2,λy g=>?_⟩;let GO:=ao g (.lst (ir ((f d).map V.int) (⇑q) (⇑(q+m))));let ar:(aL ax y (.lst (ir ((f d).map V.int) (⇑q) (⇑(q+m))))) y=⇑(.lst (ir ((f d).map V.int) (⇑q) (⇑(q+m)))):=af;generalize aL ax y (.lst (ir ((f d).map V.int) (⇑q) (⇑(q+m))))=b at GO ar;let b:=bm.same GO
  let g:∃ j:List Int,ir ((f d).map V.int) (⇑q) (⇑(q+m))=j.map V.int/\↑j<=↑(f d)/\∀ a∈j,a∈f d:=by
   unfold ir;refine⟨((f d).drop (_HT.gH ↑((f d).map V.int) 0 (⇑q))).take (_HT.gH ↑((f d).map V.int) ↑((f d).map V.int) (⇑(q+m))-_HT.gH ↑((f d).map V.int) 0 (⇑q)),by rw[List.map_take,List.map_drop],?_,λa O=>List.mem_of_mem_drop (xq O)⟩;rw[gm,l9];lia
  let⟨j,h,i,a3⟩:=g;rw[h]at ar;let am:=p.Yp _ t.1 t.2;refine⟨W2,bu,y,e,ag,r,F,j,1,b.wo,ar,by lia,λa O=>am a (a3 a O),λg Yk=>?_⟩;let a4:=b.same Yk
  let c0:∀ z∈j.map (kT e F 35),z≠10:=λz hz=>by
   let⟨a,O,rfl⟩:=List.mem_map.mp hz;unfold kT;split
   ·decide
   ·let⟨b,g⟩:=am a (a3 a O);rw[mS (show a.toNat<↑e by lia)];exact (L _ (List.getElem_mem _)).2
  refine⟨l,c,Q,Q,_,j.map (kT e F 35),1,a4.src,by rw[cC];lia,c0,λa j b g h i=>?_⟩;rw[cC]at b;refine⟨l,c,Q,Q,_,a,1,h,by lia,g,λab b g c2 c a=>?_⟩;let b:=i.trans a;let a:=a4.mv b c;let g:=((((((bc.same jE).mv (bN ak) ap).mv (bN aq) aQ).same GO).same Yk).mv b c);let c:=b _ _ (Yk _ _ (GO _ _ a2)) ai;refine⟨Y,a.Kg.m ⟨Y,Y,U2,x,ag,DF,e,2,F,r,(d:Nat),f,ab,1,a.Kg,a.lst,by lia,by lia,t,p.sn,by lia,am,by lia,λr1 i j h b=>?_⟩⟩;refine⟨Y,Y,Y,W2,bu,u,e,ag,r,F,f d,ab,1,a.wo.same b,b _ _ c,by lia,am,by lia,c2,λr2 d e c a=>⟨E,1,NU (a _ _ h) c 2,λd c=>⟨true,1,gp ?_⟩⟩⟩;exact⟨Q,E,1,g.same (b.trans (a.trans c))⟩
 ·rintro v H6 ⟨w,A,B,C,R,rfl,_⟩;exact k H6
def all_mk:Ud:=by
 intro P w K mg d q;let⟨f,g,h,i,j,k,X,G,b,c,x,y,z,A,B,C,D,H,I,J,L,M,N,O,R,S,T,U,W,Es,m,n,o,p,r,t,u,q7,q8,q9,Bx,ab,ae,ag,ai,ak,am,an,ap,aq,ar,as,au,av,aw,ax,aB,aO,aQ,a0,a1,a2,a3,a4,a5,a6,a7,a8,a9,ba,bb,bc,be,bi,bj,bm,bn,bo,bp,br,bt,bv,bz,bA,bB,bM,bQ,b0,b1,b2,b3,b4,b5,b6,b7,ca,cb,cc,cd,ce,cf,cg,ch,ci,cj,cm,cn,cp,cq,cr,cs,cv,cw,cx,cA,cJ,c0,c1,c2,c3,c4,c5,c6,c7,c8,da,dd,de,df,di,Zb,Zc,Zd,Ze,Zf,Zg,Zh,Zi,l,z0,z1,z2,z3,z4,z5,z6,z7,z8,z9,X0,dq,dr,ds,rN,rO,Et,By,um,rP⟩:=q;let⟨q,ll,cl,kl⟩:=l;let e:=b.symm.trans (mg_of X G q);cases e;obtain⟨a,F,bF⟩:∃ a,Ny K "law" "law" NG d a/\∀ (s:Shared) (v:Value),BindsTo s a ⟨[v],[]⟩ [("_law_script",v)]:=⟨_,Hg (a:=NG) ll cl kl,λs v=>.of_eq rfl⟩;let⟨l,v⟩:=m.d (ps:=["_law_script"]) X G;let⟨g1,IB⟩:=n.d (ps:=["_law_src_here","_law_base"]) X G;let⟨g2,Gn⟩:=o.d (ps:=["_law_found_here"]) X G;let⟨g3,IC⟩:=p.d (ps:=["_law_found_here","_law_due"]) X G;let⟨g4,XO⟩:=r.d (ps:=["row"]) X G;let⟨g5,m⟩:=t.d (ps:=["row"]) X G;let⟨g6,A2⟩:=u.d (ps:=["row","start","stop"]) X G;let⟨g7,TQ⟩:=q7.d (ps:=["row","start","stop"]) X G;let⟨g8,dv⟩:=q8.d (ps:=["row","start","stop"]) X G;let⟨g9,ID⟩:=q9.d (ps:=["row"]) X G;let⟨dx,TR⟩:=Bx.d (ps:=["row"]) X G;let⟨dy,xJ⟩:=ab.d (ps:=["holes","start"]) X G;let⟨ab,TU⟩:=ae.d (ps:=["holes","address"]) X G;let⟨ae,IE⟩:=ag.d (ps:=["start","stop","holes"]) X G;let⟨ag,Qf⟩:=ai.d (ps:=["row","other"]) X G;let⟨ai,n⟩:=ak.d (ps:=["self"]);let⟨ak,Gp⟩:=am.d (ps:=["self","row"]);let⟨am,Gq⟩:=an.d (ps:=["self","row"]);let⟨an,DJ⟩:=ap.d (ps:=["self","address"]);let⟨ap,Qg⟩:=aq.d (ps:=["items"]) X G;let⟨aq,XQ⟩:=ar.d (ps:=["rows","sheets"]) X G;let⟨ar,DK⟩:=as.d (ps:=["rows","start","goal"]) X G;let⟨as,dA⟩:=au.d (ps:=["rows","sheet"]) X G;let⟨au,DL⟩:=av.d (ps:=["item","weights"]) X G;let⟨av,Al⟩:=aw.d (ps:=["rows","sheets"]) X G;let⟨aw,MC⟩:=ax.d (ps:=["item","views"]) X G;let⟨ax,DM⟩:=aB.d (ps:=["rows","sheets"]) X G;let⟨aB,o⟩:=aO.d (ps:=["rows","sheet"]) X G;let⟨aO,Qi⟩:=aQ.d (ps:=["one","other"]) X G;let⟨aQ,DN⟩:=a0.d (ps:=["items"]) X G;let⟨a0,XR⟩:=a1.d (ps:=["row"]) X G;let⟨a1,XS⟩:=a2.d (ps:=["items","views"]) X G;let⟨a2,IF⟩:=a3.d (ps:=["items","views","place","others"]) X G;let⟨a3,IG⟩:=a4.d (ps:=["rows","sheet","place","items"]) X G;let⟨a4,TV⟩:=a5.d (ps:=["items","views","start","stop"]) X G;let⟨a5,II⟩:=a6.d (ps:=["rows","sheet","start","stop"]) X G;let⟨a6,DO⟩:=a7.d (ps:=["rows","sheet","start","stop","to"]) X G;let⟨a7,DP⟩:=a8.d (ps:=["rows","sheet"]) X G;let⟨a8,IJ⟩:=a9.d (ps:=["row"]) X G;let⟨a9,Gr⟩:=ba.d (ps:=["deed"]) X G;let⟨ba,Qj⟩:=bb.d (ps:=["state","sheet","items"]) X G;let⟨bb,p⟩:=bc.d (ps:=["self"]);let⟨bc,IK⟩:=be.d (ps:=["self"]);let⟨be,Gs⟩:=bi.d (ps:=["self"]);let⟨bi,Gu⟩:=bj.d (ps:=["self","changes"]);let⟨bj,tG⟩:=bm.d (ps:=["self","sheet"]);let⟨bm,qY⟩:=bn.d (ps:=["self","moment"]);let⟨bn,wc⟩:=bo.d (ps:=["self","moment"]);let⟨bo,Gv⟩:=bp.d (ps:=["self"]);let⟨bp,IL⟩:=br.d (ps:=["self","sheet"]);let⟨br,q⟩:=bt.d (ps:=["self"]);let⟨bt,r⟩:=bv.d (ps:=["self"]);let⟨bv,t⟩:=bz.d (ps:=["self"]);let⟨bz,IM⟩:=bA.d (ps:=["self"]);let⟨bA,IP⟩:=bB.d (ps:=["self","hand","text"]);let⟨bB,Gw⟩:=bM.d (ps:=["self","row"]);let⟨bM,DQ⟩:=bQ.d (ps:=["rows","sheet"]) X G;let⟨bQ,u⟩:=b0.d (ps:=["self"]);let⟨b0,Am⟩:=b1.d (ps:=["self","deed","changes"]);let⟨b1,xK⟩:=b2.d (ps:=["self","deed","sheet","items"]);let⟨b2,A3⟩:=b3.d (ps:=["self"]);let⟨b3,An⟩:=b4.d (ps:=["self","deed","items"]);let⟨b4,Ao⟩:=b5.d (ps:=["self"]);let⟨b5,DR⟩:=b6.d (ps:=["self"]);let⟨b6,qZ⟩:=b7.d (ps:=["self","row"]);let⟨b7,A4⟩:=ca.d (ps:=["self","hand","text"]);let⟨ca,DS⟩:=cb.d (ps:=["self","sheet","place","row"]);let⟨cb,Aq⟩:=cc.d (ps:=["self","sheet"]);let⟨cc,DT⟩:=cd.d (ps:=["self","sheet","start","stop"]);let⟨cd,Ar⟩:=ce.d (ps:=["self","target","place","source","start","stop"]);let⟨ce,DU⟩:=cf.d (ps:=["self","sheet"]);let⟨cf,xM⟩:=cg.d (ps:=["self","target","place","source"]);let⟨cg,DV⟩:=ch.d (ps:=["self","sheet"]);let⟨ch,A5⟩:=ci.d (ps:=["self","sheet","start","stop","to"]);let⟨ci,rf⟩:=cj.d (ps:=["self","address"]);let⟨cj,IQ⟩:=cm.d (ps:=["self","address"]);let⟨cm,xN⟩:=cn.d (ps:=["self","row","veil"]);let⟨cn,DW⟩:=cp.d (ps:=["self","hand"]);let⟨cp,tH⟩:=cq.d (ps:=["self","hand","row"]);let⟨cq,A6⟩:=cr.d (ps:=["self","hand","row"]);let⟨cr,A7⟩:=cs.d (ps:=["self","hand","row"]);let⟨cs,As⟩:=cv.d (ps:=["self","sheet","word"]);let⟨cv,IS⟩:=cw.d (ps:=["_law_src_here","_law_few"]) X G;let⟨cw,IT⟩:=cx.d (ps:=["_law_src_here","_law_many"]) X G;let⟨cx,Gx⟩:=cA.d (ps:=[]) X G;let⟨cA,IU⟩:=cJ.d (ps:=["_law_world_here","_law_rows"]) X G;let⟨cJ,IV⟩:=c0.d (ps:=["_law_rows","_law_sheet","_law_entries"]) X G;let⟨c0,Gy⟩:=c1.d (ps:=["_law_row"]) X G;let⟨c1,IW⟩:=c2.d (ps:=["_law_rows","_law_sheet"]) X G;let⟨c2,A8⟩:=c3.d (ps:=["_law_rows","_law_sheet"]) X G;let⟨c3,DX⟩:=c4.d (ps:=["_law_rows","_law_entry"]) X G;let⟨c4,MD⟩:=c5.d (ps:=["_law_rows","_law_sheet","_law_place","_law_new"]) X G;let⟨c5,ME⟩:=c6.d (ps:=["_law_rows","_law_sheet","_law_start","_law_stop"]) X G;let⟨c6,A9⟩:=c7.d (ps:=["_law_rows","_law_sheet"]) X G;let⟨c7,IX⟩:=c8.d (ps:=["_law_rows","_law_sheet"]) X G;let⟨c8,Gz⟩:=da.d (ps:=["_law_world_here","_law_deed_here"]) X G;let⟨da,Ba⟩:=dd.d (ps:=["self","sheet","moment"]);let⟨dd,IY⟩:=de.d (ps:=["_law_house","_law_deed_here"]) X G;let⟨de,Bb⟩:=df.d (ps:=["_law_src_here","_law_world_here"]) X G;let⟨df,Bc⟩:=di.d (ps:=["_law_src_here","_law_sheet","_law_room"]) X G;let⟨di,IZ⟩:=Zb.d (ps:=["_law_src_here","_law_world_here"]) X G;let⟨dC,I0⟩:=Zc.d (ps:=["_law_src_here","_law_world_here","_law_house"]) X G;let⟨dE,Ja⟩:=Zd.d (ps:=["_law_src_here","_law_world_here","_law_house"]) X G;let⟨dF,GA⟩:=Ze.d (ps:=["_law_world_here","_law_house"]) X G;let⟨dL,GB⟩:=Zf.d (ps:=["_law_src_here","_law_world_here","_law_house"]) X G;let⟨dS,Jb⟩:=Zg.d (ps:=["_law_world_here","_law_numbers"]) X G;let⟨dU,Jc⟩:=Zh.d (ps:=["_law_src_here","_law_world_here","_law_house"]) X G;let⟨dV,GC⟩:=Zi.d (ps:=["_law_world_here","_law_numbers","_law_word"]) X G;let dW:gq mg:=⟨PySem.W.mg_none_of X G z0,uZ X G z1,uZ X G z2,uZ X G z3,uZ X G z4,uZ X G z5,uZ X G z6,uZ X G z7,uZ X G z8,uZ X G z9,uZ X G X0,uZ X G dq,uZ X G dr,uZ X G ds,λb e=>(m.m).symm.trans e ▸ mg_of X G um,λb e=>(o.m).symm.trans e ▸ mg_of X G rP⟩;let e:gs mg:=⟨⟨_,mg_of X G rN⟩,⟨_,mg_of X G rO⟩,⟨_,mg_of X G Et⟩,⟨_,mg_of X G By⟩⟩;let dH:=c.d X G p.mt;let iN:=z.d X G t.mt;let z:=D.d X G n.mt;let BY:=I.d X G q.mt;let I:=M.d X G r.mt;let M:=O.d X G u.mt;obtain⟨b,c,D⟩:∃ b c,Ds K mg b c k f g h i j:=⟨fy [_,_,_,_,_,_,_,_,_,_,_,_,_,_,_,_,_,_,_,_,_,_,_,_,_,_,_,_,_,_,_,_,_,_,_,_,_,_,_,_,_,_,_,_,_,_,_,_,_,_,_,_,_,_,_,_,_,_,_,_,_,_,_,_,_,_,_,_,_,_,_,_,_,_,_,_,_,_,_,_,_,_,_,_,_,_,_,_,_,_,_,_,_,_,_,_,_,_,_,_,_,_,_,_,_,_,_,_] 0,fy [l,g1,g2,g3,g4,g5,g6,g7,g8,g9,dx,dy,ab,ae,ag,ai,ak,am,an,ap,aq,ar,as,au,av,aw,ax,aB,aO,aQ,a0,a1,a2,a3,a4,a5,a6,a7,a8,a9,ba,bb,bc,be,bi,bj,bm,bn,bo,bp,br,bt,bv,bz,bA,bB,bM,bQ,b0,b1,b2,b3,b4,b5,b6,b7,ca,cb,cc,cd,ce,cf,cg,ch,ci,cj,cm,cn,cp,cq,cr,cs,cv,cw,cx,cA,cJ,c0,c1,c2,c3,c4,c5,c6,c7,c8,da,dd,de,df,di,dC,dE,dF,dL,dS,dU,dV] l,dW,e,M,dH,iN,z,BY,I,x,y,A,B,C,H,J,L,N,R,S,T,U,W,Es,v,IB,Gn,IC,XO,m,A2,TQ,dv,ID,TR,xJ,TU,IE,Qf,n,Gp,Gq,DJ,Qg,XQ,DK,dA,DL,Al,MC,DM,o,Qi,DN,XR,XS,IF,IG,TV,II,DO,DP,IJ,Gr,Qj,p,IK,Gs,Gu,tG,qY,wc,Gv,IL,q,r,t,IM,IP,Gw,DQ,u,Am,xK,A3,An,Ao,DR,qZ,A4,DS,Aq,DT,Ar,DU,xM,DV,A5,rf,IQ,xN,DW,tH,A6,A7,As,IS,IT,Gx,IU,IV,Gy,IW,A8,DX,MD,ME,A9,IX,Gz,Ba,IY,Bb,Bc,IZ,I0,Ja,GA,GB,Jb,Jc,GC⟩;refine⟨a,bF,λzt _ _=>?_⟩;refine oL (λD F=>?_) ⟨P,w,K,mg,zt,b,c,k,f,g,h,i,j,d,a⟩ D F;let h:=Qe;unfold bW c9 bu bZ cW cU d7 d8 fj cO dc d9 xA HS WL WM at h;exact h D F
end
end _gI
theorem PySem.Challenge.cw_inkroot_k54_words_found_holds : PySem.Challenge.rw_inkroot_k54_words_found.Holds :=
 InkHd.hd2 _gI.all_mk
