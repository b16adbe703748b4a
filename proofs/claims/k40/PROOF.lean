import PyProof.Rows.All
import KE.KIntText
import KE.KTryMore
import KE.KDictLaws
import KE.KItem
import Open.Pieces
import KE.RegKTryMore
import OpenK.KOwn
import Lean
import PyProof.EqAt
import PyProof.EqKinds
import PyProof.TupleCall
import PySem.Challenge.RW_inkroot_k40_whole_rings_refused
set_option Elab.async false
set_option linter.all false
set_option maxRecDepth 100000
set_option maxHeartbeats 4000000
abbrev iG:=List (List (List Int))
abbrev cD:=List (List Int)
abbrev iH:=List (List Nat)
abbrev iF:=List (Int × Nat)
abbrev GY:List PySem.Str:=["self"]
abbrev UI:List PySem.Str:=["self","sheet"]
abbrev Yu:List PySem.Str:=["_law_src_here","_law_base"]
abbrev zl3:List PySem.Str:=["_law_found","_law_due"]
abbrev zl4:List PySem.Str:=["rows","sheet"]
abbrev Yv:List PySem.Str:=["_law_rows","_law_sheet"]
abbrev zl6:List PySem.Str:=["_law_rows","_law_entry"]
abbrev zl7:List PySem.Str:=["_law_rows","_law_sheet","_law_place","_law_new"]
abbrev UJ:List PySem.Str:=["_law_src_here","_law_world_here","_law_house"]
abbrev zl9:List PySem.Str:=["_law_world_here","_law_house"]
abbrev Yw:List PySem.Str:=["_law_world_here","_law_house","_law_sheet"]
abbrev cy:=@List.length_map.{0,0}
abbrev cX:=@List.length_append.{0}
abbrev gU:=@List.map_append.{0,0}
abbrev fT:=@Nat.le_refl
abbrev qm:=@PySem.F.plainAttrs_list
abbrev qB:=@List.getElem?_eq_getElem.{0}
abbrev kX:=@List.length_cons.{0}
abbrev oA:=@List.mem_of_getElem?.{0}
abbrev oE:=@List.mem_cons_of_mem.{0}
abbrev qy:=@List.length_singleton.{0}
abbrev gf:=@List.getElem?_map.{0,0}
abbrev gE:=@Bool.false_ne_true
abbrev jQ:=@PySem.F.slot_list_append
abbrev jR:=@PySem.F.type_list_append
abbrev gZ:=@List.size_toArray.{0}
abbrev gO:=@List.length_take.{0}
abbrev gP:=@List.take_length.{0}
abbrev ic:=@List.append_nil.{0}
abbrev gQ:=@Nat.le_of_lt
abbrev m6:=@List.concat_eq_append.{0}
abbrev kG:=@List.flatMap_cons.{0,0}
abbrev oF:=@List.mem_append_right.{0}
abbrev qo:=@List.eq_nil_or_concat.{0}
abbrev jy:=@List.map_cons.{0,0}
abbrev mL:=@List.append_assoc.{0}
abbrev vX:=@PyProof.Rows.boot_isinstance
abbrev jv:=@Nat.le_trans
abbrev sf:=@PyProof.Rows.boot_list
abbrev oG:=@Nat.lt_of_lt_of_le
abbrev jM:=@Nat.ne_of_lt
abbrev tK:=@List.take_of_length_le.{0}
abbrev sj:=@List.mem_append_left.{0}
abbrev m7:=@List.foldl_cons.{0,0}
abbrev uK:=@List.getLast?_concat.{0}
abbrev tL:=@List.mem_cons_self.{0}
abbrev qp:=@List.length_nil.{0}
abbrev qC:=@Option.some.inj.{0}
abbrev yl:=@List.length_replicate.{0}
abbrev AU:=@List.getElem?_append_left.{0}
noncomputable section
namespace PySem.W.Fast
local macro_rules |`(universe $i*)=>do return Lean.mkNullNode (←i.mapM fun x=>`(theorem $(Lean.mkIdent (.mkSimple s!"tw{((x.getId.toString.drop 1).foldl (fun n c=>n*62+(c.toNat-(if c≤'9' then 48 else if c≤'Z' then 55 else 61))) 0)}")):ident :True:=⟨⟩))
universe aAUD5T5IQ0yX aFQw1pT6eiCn aA6WcIXhrOkT a8AiGud4UdHj aEVSVFb8Mfti aKnvL4nOmgP2 a7iVrR8rtvRs a8iTLGLIpP1K a49STO95fAat aJM1x1PIQXX7 a4NO4DoFDGbI a8fkJped3opg aJ7AO3pTW5h0 aD5gY81yHUMp aFYisHYx0Kr5 a8smNcPn7Ps5 aI61OiBoLkCq a4DPk2UcTUR3 aK8DMHEmgJjk aA754yXvHe21 aBiksAVb59ZM a88Lh5IgbNPa a6ipNmyO3epZ aGxQfdBF8MoH a6tchUEOjp8E a5uVAJX54d8F a6k1u42J5UwN aKt1g2NdNH09 a4PLItCZZVUS aCjJZmh8zgnF aGT5rxP9uGgz aJLmhHmyylvs aKxiOa06xT3B ajVii2C9HLB a4Bh1LWWI5ZL a8t46QMSdonL aAHFzfAWa0C3 a7VwuPvLIH7H aNjsZaOMNZm aITQcBTA5HL aBs0Ds9SlkT6 aGKnTrvkiDmB aEYFzxKjsvHu aKi3ZKZ11Wze a6WKdFeC0YCi aCIgHFD7sBDB aKsOtF9wWg4t aAfG2u6Mxzj0 a5SSRikxW3GF aCxQTlSw8KNm awmVhVv3LUk a9AkBsOt9K7v a2MybfcyOj2c aA0nNVwXpgNl a3hwxgQZuKjX aEUkXNrmDyuB aK9p3Moyt5cI a9k5xorrM5Um aK66kVo3Udmk aCz8dLFD27xJ aF5eaM9trezZ aGxF5RGQ7IV6 aE8g0Nf2XH4A a1jU2YB9RR34 aALDsdQ7TTQz aGysjFMcHC9J a7mHx8d7lp1j a6OHjOW4kttS aECCgwv9nOnz a973ytWO1JBF aKOjdx6EvTzB a8Orpe6sTuin aDeXT0ArwpJJ a41QqvzD0cRY a1zF7hAlEfE7 aCeVv59QKnxu aCSW0D0m07xu aDarfDG5z6Ex aCRDHOA6rZEt a2bUSRMn5dwT aFjOj9DBUMQ7 aFqtrakDC23p aCOEqLn2b4z6 aEJ82Vf9Qyex a5wMhFM33Q0Z a4sO55lSJ4bV aGzF5W3o9YX2 aD8nA3OxPN9q aLXsBloHOSLS aHTQpOc4vtUm aHGD20JFKYaJ aDgwkTwSye4a a8pi92EdJsAA a7hHZqYXKUv7 a6pNaQO2QzIp a1KSIjBXpDiA aG9hPRYhB2Vv a9x9rOj8VMCn aEMv0K7GEH5x a1hFpCo501b9 aFDQqAet2k4U aEOUS7ESydk9 aJVz4xtRMHzg a3kT5EUStKD9 a5XehDWqDJtU aJwra7n7s0Mg aGSNGaxpnQWO aJctbm7xryY0 a7p3rguZqjNa a5Bu8OQVUzJ5 a318yjg6BNKN a6g43knxf9Bo a8xPFkutus2r a3yd5UyN3fMm a3D1noLIimAI aEcXF4i91fIZ aH2UCJF1oVdg a3uRci9lqw2p aJCNdEyOCVYn aH7XTDaVpAU0 a4LIV9Aovss a4aQdBomrju4 a7sBfsbJ7oRQ a5HBzqkpTuaO a2jswnqbp14c aKGp2WvnDRGO aCCmAg3b8zv5 aLVp5lrL0EwR a4cvcx6RYBAg aGbjBvXnkHGu aKosDRIj2mRM aJDaIUntIttS a2rOQmX7OmRt aGJ6H8gNB9jd aHnmonmDQdJ8 aKAa0oAsPIce aFTZItnNwb9K a7rBFpArWSiY aGY7rHg8w26e a9cE8SGQd9gq aGwGRY3VbISX a1MKEheNdU0v a887ecCnYsCi a9WzNX9ujUc0 aI4Wwgow30Wh aG3bHyFqkWjx a3Zwy5e2rX7l aLIiKTK4uwq0 a4caWAAdo20m aAIwedHZ3bx9 a2LuJJvbOLzS aCDgZ2UcunbR apEVooLaU9M aBYk0Akw3Zgk a5DlhJZwxzF7 a1yo0zDBY4XF aHdkMLmZl3yE aDKoExUW5a2X a3g1SSShltf4 aGkPCidJsFwe a5VKkuXUV9jp aFDO3KLrnrk2 a7vj7X206wxq aACd77BE2zri aLRduscwkWI3 a2gsQGePGomD a6Ihpv9nZVUw a4JPmGZKVeHQ aK2IedrgVpqU aI1T4OloVghp aFlHLyvYEoxf a5bXya1sKt7w aKWpfsp9fsfj aAizX1iTqbrO a8Jx0ngD8ZDT aJE4A3YN60Wd a16dKqx9VCHo a5arutd1FkMU aIDvlYYVDn1f aBTyjWlUFAmG a86DkxcBGw9H a3htAjzfmDPr a4XSzMt7tcGm aDRFFHNYBAcY a9fQyaVZWfMT a81vQ86pAQYd a8usYaTbQsJz a8NduB9UPEha a5jm1ONXLTkm aLo9K0ZiQn86 a8zZSwA35dX4 aAXKc87yeltt a1sL9RAYoq7Q aBWPy3YgTkrj a4rziYlEs4i0 aLF78RueIYPL aQTOkCRCpKj aD2NTyLYGjq9 a3SQxhTENuUx a100LYcgdcY a7rnvx09swDD aBaByRd4qIdg aIS2rtknLxSG a2y8TJ05JS3h a88ZDpRD6vZd aKlp6L2LQoRm aGaU1Znx8CzL a6P17xNHDSBH a5im33ITM8Oo a7d5DSpQt15v aErGSt2JOJBF aZmQlWZAhJ6 aCih6yLE3jjW aBOl6EtG9HnR aOuXzYdl9nq aAaarTMp9Eyl aLlJcLLg3ZNZ aI0RtoEuDqoz aQN9PTW1mNL a34plVFwvsF4 a5Agl7Aap0Jl aKSaVOZM7f7w aIi8spi3jddz a4s3kN1EJb7A aBrZZYNvBJqe aD5TEdisYV4k aBDTyAH8WwWB a5HNtVWJkLzU aL7BoDKf7SdA aLakn99n3Lvi aTfV9TlxIOT aIN0yD1Pd1wD a3KhNhpjgEbZ aAljYK5gXHpg ayTiTTp3jHj aLhhdGhegHA4 a4xajvaGDW1P aBW6X1q8Uyl5 aSKDYMLyAU aEMnFK47OyDF aJdFhbbYWQVB a8aMqerax2LF a87cWijluoI8 a6VMI7773Ouf aFXtgqpcimIr a2UrjMSE3xdc aGIDOiYdOdrS aCa82ktjSf35 aBOuNVLSNRXj a2UhQrY2a3Mv aFKgYkgOGLq9 aLRrT2h0TUKV aGw0Q7MZdnWo aK51uJgnMrgz aKQAE3fZpSqZ a5kdioNFc6ol a17updSf1qrE aEqPiwwqIv76 aAjYIjIosXhM a4slqCMuqZCe a5oV6PnZA9bX aAckQMoq7P1D a94Fnod8fT36 a3ka4lAuYrcI a1Kutr38NCUh a5xJoA04kTIt aLorIcMqu68 aCRWsg3JG7mk a4OgGzB4Q5fL a7dR7s3dnnp0 aH7vjXlvct2V aC5lUw55FojH aDRxHoTBRKbu a3twyCqwEpd8 aDP9Y4sT0GMi aIXswAFNiHGQ a2DYVCAUarFV a9JLcoeJ4e5M a7I4aryisNPS aH4hmwj0qp36 aKbckQ2sqjnE a6MrY5ZppieZ aI8yKT2sMvKm aCBS6zMDdGxn aCh7pzeJKHn0 a8o27V53QaRl aIFGLjvFFDGO aLC1o2XGueo8 aFYANxtQB40B a3vrIT3lRF5C aI6DpbCMF7Am aFG9XmdrhJww aSDy95MPwkQ aJtYT36zXbsQ a8SMStLxTH10 aHmNabljPXmG aF2DY4qKLnAT a6z9NVQUKpn6 aKc7r5Sl4DLH aEuMdBsDifQA a3KWI1utovmq aFRaNTlFyKiZ a3mKfwZjtFED a7C1VWEEb7Qh aEyrUmYHpe7R aJakCtk05X6m aCIMjWRUyJeI a69fXv0q8DUT aBbWPZOw8QrI aCnXTfNOglPX a3MjP53C5C5Y aMZ9U3T93Xr aJe23Wm1n129 aFuSSBMxNYBy a9mtKXlZcCUp a9xhLXXprPww aIIjq0d3w4V2 aJ1HzMcI0Ac1 aUEWYRGInSw a6WL2oOJfQS5 aKM68gnV1oUY a34a68znZMLD aC2HRIBOjmFW aDiXaU8tZdkq aG31MDLtV3at aCXY8y7WleVH aKfNEPQtiXH9 aHM3EOXdNLTg aIT3amFa654M a1g47In6m959 a2i2SfXrQTin a1EJk64YFPPQ aKot8TNmcjDF aJOX7LaB0FS a3Y3kh6NckGC aB0Qoc4D2hYp a5blgOmDKX0U aGePomtBTHwR aL3DEQChCMCM aGqLEKBYN7tQ a5vz1cEH8iMR a7b0q7qrik83 a7SgSjMu1jKd aAt2ijFqphOK axSGL3i9DFg aELxb5syA5Z3 a7L7vS7ZYpSE aCauM19rlmW1 aKXxizrO7jlN aFHBvuHFAOF8 aW1d1z7ZMnF a9sI5VQJkpkI a8N4mMJPUerB a5zHSbRZ1Ekc aCfSKkPwrpDs a959OEKa1ViU a4XCVQF1GeAr aA29dJsqiYxu a3tDrWmJ7Afp a7LjkgspfzLu a9ocgi5IjkM1 a6AXWYYNE6MR a1FRCC6lhKDh a5fnD8PpH1P3 aEcxTtuJ3bXz a1MRR0TDPoZo aHbkOembuSRc aKDkIsbSHURg a1r2cAWnDIcB a2sxBd4wyv7 aDgg2UDWm8Gz aJQNja0DXk0E aJOLU767Dk0t a5bnybHSltBL a6nwADCPbvPJ a95kdUzDiG5Z aBsMC7Fn509d a5uZu1l8HHsZ aIv980AkR1Io a6kwFqLNz6k5 a6pMl63IYwfH a1yECfe4tkim aESvH8AOvPWO aCyO5cyL7uVq a8Q77bvzjvkF a2bwuaa8r9Ng a8NuY4NhLewH aHSPT6MH8HX7 aEkUoh7t9Ed5 a33TK2QeSh6N aDGMCUfxrCWh aG8XZfmYUjPo aHZKqiO3m82H aB7cOYU1asPu a7Z6MAzLSP52 a7I6Warwj2mO a2wsrllNrj9Y anQkYplBDSo aIeS3sM7V3sP aHcKREarm4he a6Hey9gq51Mn aBOedWmVZ9do aETMsVv3AZeq a62lw6jCewNL a9Q6ffHiXcYQ aCbWKdXwBsDQ aIITLyKH9WPo aKCkb2kRbLiW a9augP4Gqs0r a216wgKGLO47 a8bfnf1YOq4P a7G3pPrnrMR8 aAYnaf9DXAHp aGTgrj77RCIx aDM2nstiNag8 aFJdTnZA7fTI agxYLRK7hrK aKm5g0IwfsaV a89T5ARSMRYl a77uCqqTSSPB a6U5N3OsLcSA a4ZExJoClv0h aA88lzKrHXg7 aAHmpnRzMQKy aKZYoIbdqfkz aJQhAPLzXpWT a4euCQnLLr3r a1UM1DgYEfqB a4rvz3nczWjT a38BdMdt45Ca aCoCR41iqEaI aDCOYUd0hP4C aHJdJPTe1SV2 a2iUfHVENlTl a6oz1HgegnbH a5ipOoUy1hTL aIaNq480wEcg aBiite3FCo9a a3T6p6ZNGCaM aDDKFYpQq9n8 aJYfPIyYB9FJ aKLEPoAL8ZRk aHgmtAur772t a4gCKuF1G43s ac5WJYgs5tR a1cLjgrcHIpF aBlz5k9XHWVb aKx9NcgESSqY aCq9B8EgHP9h aH8MpL22nyH3 aBX1iQVq4o5o aLff8tX3BDQC a2FkGCSzJTSK a4UfpLZdCG3T aAHUaFC85W3m aEVQ9Q0mZ02b aEkU6qPFYPLI a6XQ9ktt62y5 aCTOvjvr9Qz8 a3EMYVPRiqq5 a8AYxo6DOvh1 aCN7QF0qZwua aLciiW8ncUAs a2PXaQhEnbXT aLQ7G1t2Octl aF12mF1sLWgf a6XMiCz8YH6l aLGlc4QB3oLi a8dSoLsqpZNC aLgtbAzQnpLT a3ZPaixA3Xrt a2CGltdBR2vs aKVvNB8XMmn5 aLuhD1OCs7wQ a8sSkk6PpgQP aEAjQzAwSoq9 a6EEUqLVCplu aJUsjNNxiQC8 a8E8YvPUGanS aJKIR90NJ1KH a3IIrfsisZvU a2baVOFP1Jex aEqwITxmeJHa axYWPFki1wV aGYQS1HuIWlj aBpS9HQ5Qo3x aIONvJBRZZQw aES4DqyuSyYH aINikJg5jiIH aAbbhPd7FlYc aF6rLaXGQhFW aAbkF9yz7BXh a9KVOHLBI5Y5 a3rv6PIPtUoT a9BFgHFJcN8v aDX5OcFsK2QJ aLZb8XTNtZFt aELLSwoUFl9K a2ncOF1RTiax aGvFnx66J754 aGKO3wB0Lxgh a5OY2PGrGGAH aFXoR8eIGqGG aDFqBJRUU9Ms a4rRMPCVBj8h aD3k9GxHbODV a8XXMHdRBNc0 aFDQbNKsvoXf aI6VK7CW456a a1aeJqUoFgno a3OW3MDBlEHG aJJHwsE8jpwL a7dDQx8J4qCR aC6oQNqC8vEG aKcJVlWwIyWQ aHf57X9CmKaW a1d2eBaoni5E aFaOlzTMpanx aHnbXNeWZsA7 a2oEYiGEeW3i aCDNur9kqXQB aDFDW3K7euSq aGNAg6gG0xTn aINXfhHqWUY2 aKay03DsPI4M aJXJdwtuEKkR aL7QchCxO4Zu a6tJG1IdX6VP aAnFXYNZf9K1 aLMNFbXAIApZ aGZXqSWiNmzx aIVG7rShA9Et a3A2YqCDmNqD aF8WhGUeEvse aGB75LCwzYTi a8sew0NhVQsa aJK0Fd3ge9sY a92uEwD3znEn aAOT2YOaqFbV aKJ9jG0qyLwl aBPAGth7cUeJ a7fjHkALX2XM aGfdqRlEi6fg a8cZ77k36y6m aHroFfUgh1Mv aJnCicEJVXGQ aH47suWul8vI aK5Z6SQTBbDh a1K6bUFXstVY a45EYXPh9O7a aDLnybaGVa1x a1rbhglHAhdU a2bjiYB0wc2F asaoFikiOpa a4aDffFITZ0Z aIQRIHp7stIy a89qi2mTF9lH aJCPulgvS5ce a6IN3Us7T3Yi aKRjlwFpFlIN aGa7y7okjwcG aCJ0gvTmSsCf aJEzMNm8s8Mx aDQpj4zokhhh aDkgDPzH34Nh aDR3U0XDhm6E a3EcMx4VE7Ou aCOiJhIRhBb6 aI9ETwTVfJjN aFWo0C5DZOui a6DVLfY26TN4 aCXKt0Yzwg3n aEq5yucDM3oc aI4uUtSSiu6E aBNdRJHRSmhE a7w9rY8k8PxN aCOXgYAuIcYh aH984pUl0umI aLUAOw2JSxj6 a36IkVGzywnJ aLIFDj2uaeqr aHKbr5n9AnYE aAxUxgTrZ1Rr aGN0yAqBs7Zy aCfCA3iYX8Io aJvR9AtiQmFE aDZFRTAOYbC aD1sfcp9Gfp3 aK6sAKaBupG1 aB6Rq1hnlu21 a4am0yUK0H86 aIk9nEyPF5F7 aEaDY6NDg9S7 aK6xkM0kE4oJ a2f4zHbudd0Z aJx4IEHLi4ur a6NajnlqCchX a6h85ksXHNjZ aGd1ojO6AsXx aBzmKd2Ks04X aDxlFAdjQ94c aG58h9wzM9p0 aLhQ3BjVF5d1 axacFzFpPbl aNqtjb7Qi6u aHR9Qfa32osk a6iNdaUwpngH aF3PpW3GLUnM a5xHZT5ttEZW a1Cj06sbq17A aElxRrtrjjPR aLK9Bz4seQT7 aAliMDeUAuwJ a5BZTkK9LJ7b aHfNr0zboRCB aFxOp4azVyt5 aF89vA1hkuu a3M7xN7I6YZ1 aKyDqP9u32xF a7ukyRiB9QUw aDPxipk0tDF6 a1OG3kCW303Q a1GbZze9Jahj aC6Ia5JnNMQr aGmmincRZx7j aAIcxg4ZgoWp a5pvHah4g0a1 a9dq4AVwhoLj aHCi2qPrjpQU a90cNX0P3Q17 aFAbCtgNoyOy a3Y54LUd9gtA a6jmDLwLqnCM aCQI7tLGmWkT aLMid9ldtqSN aGwIRfcPlzDg aKcQd7N1MUUi aE8W8dKfLNR9 aH1Kp0FL5IDD a27tgPoKIAZN a5qyfw0gKTZ5 a3lwA79BwCTh aIUyFEzyE6CP a2sI20fg3MNl a6Rr0fEKLUK3 a7HHjs0O6gYo aALA11mR1uv0 aG5P45LkHmjO a7h6hBKdqFCa a3BhYwLHYvB6 aCziQwEn32y7 a7SPyzQLSvKp a9fHLZuoc1ip aBK5Ph04BS8s aLIbgopSues3 atwFJ4KZ1q9 a3RB1AzYE1cg a9ISVVPLoYB5 aJzGBtRTCAjB a6LzvOJJkP1b aEI4wTeDYGiA a5F9nVl9WZEO aBvMwyZqmwHz aEeaLNqO75g7 a9HVR5Ex6vkz aGfT4FAhJ7fK a3AFLlPvvUKj aAIUESrCSrO2 a3WEBHjPU8Nr aIqBiCJmqdKX a2E5TK1RBQz4 a36drWpXyugj aFuo3GxMjo9k a2ivdmRAcFp5 a4YhLFFnJM4f a3BHlW9nYvp2 a71nl8Saf9Nm a5Y8M438q1t2 aFJPt58Y3NCg aAuBlNmOhbzQ aDlW8WTFhA1w a5ESVag2yjEk aHd72JSkRN26 aI1qqweuz6Eh aL4NjFLpRsZZ aLDzf62limh6 aIEOi7r4X9Nw aLPnB50tQy9s aIsR9V4Dl6jn aBkB3jc6VLb aDVffmBFEz2Y aJ0gnTn7oJg7 aFg5vh7Gah7O aLqGC1COe2RU a5TXzyKAUeEU a9vhgUiAs1KR aI7Iw32bCyfs aHDipZ3iGQXp aJaMKD1hOCft aB19eCcmj9Dl a48beJ6Acf60 aKTU5hxxBoX7 a2KGqP7ERE5z ak9CiLdhc6w a1PnFRoYAXiM a13U1cdTeuFy a4ixt8bv38WV a1ofrhve2sNl aKGPngZmfOUo a3qQvif0alya a1LRSmnLDV7O aJbL2QG3Fqjv a4XwnJwOiIp1 a9AGCYsU3s1S aBYe41luvsIz aGINoBNy0mEj aDoQMmhA0xE1 aFGsq8Ehmr5x aolnQ1hXn4f aCfRHmWH1wAz aLZ4CLqH0vP9 a79UzBzSDddp a4ledzIz5HS0 a2HP8t5MNLGf a4oWOAWOjxMA aIf1a1b28Lh9 a9VetNpx7vyG aFtY1Vx74eUX aBvNrMRJVU2Z a6v5u1vAeYhK aF2MAWbdydHY a4vjrecSQ032 a5vNrVg5w2Jt a1cNchIzTWEb a6FX51fTO857 aB8AdDTriTaY aFu8yeQF4FwS a9Fdqky98vbH aGk5AlQVyjYe af8zX1tdwgy a1OpjBhx6xZh a8qUe2QFUMRc aEKVuW7cH4Ap aJh0EfmAVsoS aLPpTWkpw2Pl a9MhVPn0EoJL aGCmJ6oYalRc aDaepLAILLR5 a9YFuyINcIdf a5GeKfthawjO aClRaKLOZqHe a2KM7k43jznK a81WWmglg2bO aHXVJ1QubEk7 aLIjKI5amLM3 a3X4S0SniHL8 aGcoswVK7yLC a6bbAWQx2wpF aL7DIse3udz3 aKHxpzjVDmBQ a5bSlZOsrtZt aD56Rfikd4xF aKUJpx3YVOsb a5jknMYnvZ1Y a7sCP4rRG8Fb a9xeYrsQnnhj aIyP2Veq6EKM aINg3zVLdymJ a8HhsGqR5Acg aHee0GrRoQqU aJsdAxj6VeIJ a4uMHFVr4P6T aCDxRGXGVmJs aBViaxWPK39h aKQ3YzOeu86P aGk5FBFUY8aE a9GhjZvUOx2X a4uQnlrOrK2w a6goswx4SJa8 aRETJFw7JRA aEhxi6EcD7Kn a5Y5BSZvmc0S
end PySem.W.Fast
end
namespace InkHd
open PySem PySem.W PyProof.Rows
def fr(o:Obj):=match o.data with|.freed=>none|_=>some o
noncomputable def pk(s:List Obj):Nat→List Nat→List (Option Obj):=s.rec (fun _ _=>[]) fun o _ h i l=>l.rec [] fun a r _=>(i.beq a).rec (h (i+1) l) (fr o::h (i+1) r)
theorem ps:∀(s:List Obj)(i:Nat)(K:Frag),pk s i (K.map (·.1))=K.map (some ·.2)→∀ a b,K.lookup a=some b→∃ n u,a=i+n∧s[n]?=some u∧fr u=some b
|_,_,[],_,_,_=>nofun
|[],_,_::_,e,_,_=>nomatch (id e:[]=_::_)
|o::s,i,(c,d)::K,e,a,b=>by
 have f:((i.beq c).rec (pk s (i+1) (((c,d)::K).map (·.1))) (fr o::pk s (i+1) (K.map (·.1))):List _)=((c,d)::K).map (some ·.2):=e
 have g:(∃ n u,a=i+1+n∧s[n]?=some u∧fr u=some b)→∃ n u,a=i+n∧(o::s)[n]?=some u∧fr u=some b:=fun⟨n,u,h,k⟩=>⟨n+1,u,by rw[h,Nat.add_assoc,Nat.add_comm 1],k⟩
 cases z:i.beq c with
 |false=>rw[z] at f;exact g∘ps s _ _ f a b
 |true=>
  rw[z] at f;injection (id f:fr o::_=some d::_) with p q;intro h;rw[List.lookup_cons] at h;split at h
  next t=>cases h;exact⟨0,o,(eq_of_beq t).trans (Nat.eq_of_beq_eq_true z).symm,rfl,p⟩
  next=>exact g (ps s _ K q a b h)
noncomputable def kF(K:Params→Frag)(l:List Addr)(e:∀P,l=(K P).map (·.1)):Hook where
 α:=List (Option Obj)
 obs s:=pk s.heap.objs.toList 0 l
 val w:=(K w.params).map (some ·.2)
 says:=InK K
 of w s h a o k:=by
  obtain⟨n,⟨_,_,d,_⟩,p,q,r⟩:=ps _ 0 _ (e w.params▸h) a o k
  rw[p,Nat.zero_add];unfold Heap.get?;rw[←Array.getElem?_toList,q];cases d<;>first|exact r|cases r
 keeps:=(kHook K l e).keeps
theorem kIn_of{K:Params→Frag}{e:∀P,l=(K P).map (·.1)}(Y:(kF K l e).says w h):(K w.params).In h:=Y
local macro_rules |`(tactic|o_head ($_:ident $K $l $e))=>`(tactic|o_head (kF $K $l $e : Hook))
set_option maxRecDepth 100000 in
set_option maxHeartbeats 0 in
open_top hd_k40 for PySem.Challenge.rw_inkroot_k40_whole_rings_refused
end InkHd
noncomputable section
local macro_rules |`(def $d:declId $s:optDeclSig $v:declVal)=>if v.raw[1].isOfKind ``Lean.Parser.Term.byTactic then`(theorem $d:declId $(⟨Lean.mkNode ``Lean.Parser.Command.declSig #[s.raw[0],s.raw[1][0]]⟩):declSig $v:declVal)else`(noncomputable def $d:declId $s:optDeclSig $v:declVal)
local macro_rules |`(abbrev $d:declId $s:optDeclSig $v:declVal)=>`(noncomputable abbrev $d:declId $s:optDeclSig $v:declVal)
open PySem
open PyProof
open PySem.W (callWith_K callWith_K0 cellsFrom_some codeIn emptyDict fnOf hasDictIn instObj isFn kIn_of kia_one kitOne kitx_dict kitx_list lookIn makesIn methodObj mg_none_of mg_of plainGet plainGet_of plainOver takerIn)
local macro_rules
|`(⟨$a,*⟩)=>do
 let mut z:=#[]
 let mut c:=false
 for x in a.getElems do
  match x.raw.getId with
  |`Z=>c:=true;z:=z++#[<-`(_),<-`(_),<-`(rfl),<-`(rfl)]
  |`Y=>c:=true;z:=z++#[<-`(_),<-`(rfl)]
  |`V=>c:=true;z:=z++#[<-`(rfl),<-`(rfl)]
  |`K=>c:=true;z:=z++#[<-`(_),<-`(_),<-`(_)]
  |`P=>c:=true;z:=z++#[<-`(_),<-`(_)]
  |`Q=>c:=true;z:=z++#[<-`(by lia)]
  |`E=>c:=true;z:=z++#[<-`(by decide)]
  |_=>z:=z.push x
 if c then`(⟨$z,*⟩)else Lean.Macro.throwUnsupported
local macro_rules|`(tactic|exists $a,*)=>`(tactic|refine ⟨$a,*, ?_⟩)
set_option hygiene false in
local macro_rules|`(‹($a,$i,$p,$s)›)=>`(∀D:Ds K mg aX aZ C CS CW CB CT CD aA XG ci,aY P w K mg zt cP $a (aX $i) (aZ $i) $p $s)
set_option hygiene false in
local macro_rules|`(class inductive $n:declId $b:bracketedBinder* $c:ctor*)=>`(inductive $n $b* (vs:List V)(H:Hp)(Q:VK)(E:XK):Prop $c:ctor*)
set_option hygiene false in
local macro_rules|`(tactic|specialize $e)=>`(tactic|refine $e λcJ A zn s H vs Q E hr h=>?_)
local macro_rules|`(nofun)=>`(by decide +kernel)
local macro_rules|`(∅)=>`(by lia)
local macro_rules|`(↑$x)=>`(($x).length)
local macro_rules|`(⇑$x)=>`(some $x)
local macro_rules|`(↥$x)=>`(.ref $x)
local macro_rules|`(tactic|let $p:term:=$e)=>do
 let rec go:Nat->Lean.Term->Lean.MacroM (Lean.TSyntax `rcasesPat)
  |0,_=>Lean.Macro.throwUnsupported
  |n+1,t=>do match t with
   |`(⟨$a,*⟩)=>
    let b←a.getElems.mapM fun x=>do`(Lean.Parser.Tactic.rcasesPatLo|$(←go n x):rcasesPat)
    `(rcasesPat|⟨$b,*⟩)
   |`(_)=>`(rcasesPat|_)
   |_=>`(rcasesPat|$(⟨t.raw⟩):ident)
 `(tactic|obtain $(←go 9 p):rcasesPat:=$e)
namespace L2
open Spec Rows
abbrev eY:=Sum Int Str
def zd:eY->Value->Bool
 | .inl k,v=>Value.isInt k v
 | .inr x,v=>Value.isStrOf x v
def acU(w:World):eY->Int
 | .inl k=>hashInt k
 | .inr x=>hashStr w x
theorem fj:∀ {k:eY} {v:Value},zd k v=true->(∃ i t,k=Sum.inl i/\v=Value.int i t)\/(∃ x t,k=Sum.inr x/\v=Value.str x t)
 | .inl i,v,h=>by
  let⟨t,e⟩:=Value.isInt_shape (k:=i) (v:=v) h;exact .inl ⟨i,t,rfl,e⟩
 | .inr x,v,h=>by
  let⟨t,e⟩:=Value.isStrOf_shape (x:=x) (v:=v) h;exact .inr ⟨x,t,rfl,e⟩
def KI(i:Int)(t:Tok):zd (.inl i) (.int i t)=true:=by simp[zd,Value.isInt]
def KJ(x:Str)(t:Tok):zd (.inr x) (.str x t)=true:=by simp[zd,Value.isStrOf]
def UK(a b:Int):decide ((Sum.inl a:eY)=Sum.inl b)=(a == b):=by
 by_cases e:a=b
 ·subst e;simp
 ·have h:¬ (Sum.inl a:eY)=Sum.inl b:=λq=>e (Sum.inl.inj q);rw[decide_eq_false h];exact (beq_eq_false_iff_ne.mpr e).symm
def UL(a b:Str):decide ((Sum.inr a:eY)=Sum.inr b)=decide (a=b):=by
 by_cases e:a=b
 ·subst e;simp
 ·have h:¬ (Sum.inr a:eY)=Sum.inr b:=λq=>e (Sum.inr.inj q);rw[decide_eq_false h,decide_eq_false e]
theorem UM(a:Int)(b:Str):decide ((Sum.inl a:eY)=Sum.inr b)=false:=decide_eq_false (λq=>nomatch q)
theorem UN(a:Str)(b:Int):decide ((Sum.inr a:eY)=Sum.inl b)=false:=decide_eq_false (λq=>nomatch q)
def fX(prog:Program)(w:World):PySem.KeyKind prog w eY where
 is:=zd
 hash:=acU w
 inj:=λv a b ha hb=>by
  rcases fj ha with ⟨i,t,rfl,rfl⟩|⟨x,t,rfl,rfl⟩
  ·rcases fj hb with ⟨j,u,rfl,e⟩|⟨y,u,rfl,e⟩
   ·injection e with e1 _;rw[e1]
   ·exact nomatch e
  ·rcases fj hb with ⟨j,u,rfl,e⟩|⟨y,u,rfl,e⟩
   ·exact nomatch e
   ·injection e with e1 _;rw[e1]
 byValue:=λk v h=>by
  rcases fj h with ⟨i,t,rfl,rfl⟩|⟨x,t,rfl,rfl⟩ <;> rfl
 pyHash:=λhv h=>by
  rcases fj hv with ⟨i,t,rfl,rfl⟩|⟨x,t,rfl,rfl⟩
  ·exact wpAny_pyHash_int h
  ·exact wpAny_pyHash_str h
 eqBool:=λhu hv h=>by
  rcases fj hu with ⟨i,t,rfl,rfl⟩|⟨x,t,rfl,rfl⟩
  ·rcases fj hv with ⟨j,u,rfl,rfl⟩|⟨y,u,rfl,rfl⟩
   ·rw[UK]at h;exact wpAny_eqBool_int h
   ·rw[UM]at h;exact SeqAt.EqAt.int_str i t y u _ _ _ _ h
  ·rcases fj hv with ⟨j,u,rfl,rfl⟩|⟨y,u,rfl,rfl⟩
   ·rw[UN]at h;exact SeqAt.EqAt.str_int x t j u _ _ _ _ h
   ·rw[UL]at h;exact wpAny_eqBool_str h
 «strs»:=λk x t v h=>by
  rcases fj h with ⟨i,u,rfl,e⟩|⟨y,u,rfl,e⟩
  ·exact nomatch e
  ·injection e with e1 _;subst e1
   cases v <;> rfl
theorem Ex(prog:Program)(w:World)(i:Int)(t:Tok):(fX prog w).is (.inl i) (.int i t)=true:=KI i t
theorem Ey(prog:Program)(w:World)(x:Str)(t:Tok):(fX prog w).is (.inr x) (.str x t)=true:=KJ x t
end L2
namespace L2
open Spec Rows
inductive V where
 | fV | bl (b:Bool) | int (i:Int) | str (x:Str) | Hh (b:Array UInt8) | TM (b:UInt64) | ref (a:Addr) | ty (n:String)
 deriving DecidableEq
def RelV:V->Value->Prop
 | .fV,u=>u=Value.none
 | .bl b,u=>u=Value.bool b
 | .int i,u=>∃ t,u=Value.int i t
 | .str x,u=>∃ t,u=Value.str x t
 | .Hh b,u=>∃ t,u=Value.bytes b t
 | .TM b,u=>∃ t,u=Value.float b t
 | .ref a,u=>u=Value.ref a
 | .ty n,u=>u=Value.type n
abbrev b8:List V->List Value->Prop:=Paired RelV
theorem b8.length{xs:List V}{us:List Value}(r:b8 xs us):↑xs=↑us:=Paired.length r
theorem b8.get:∀ {xs:List V} {us:List Value} {i:Nat} {x:V},b8 xs us->xs[i]?=⇑x->∃ u,us[i]?=⇑u/\RelV x u
 | _,_,_,_,.nil,e=>by simp at e
 | _,_,0,_,.cons r _,e=>by simp at e;subst e;exact⟨Y,r⟩
 | _,_,i+1,x,.cons _ t,e=>by
  let⟨u,h1,h2⟩:=b8.get (i:=i) (x:=x) t (by simpa using e);exact⟨u,by simpa using h1,h2⟩
theorem b8.set{x:V}{u:Value}(r:RelV x u):∀ {xs:List V} {us:List Value} (i:Nat),b8 xs us->b8 (xs.set i x) (us.set i u)
 | _,_,_,.nil=>.nil
 | _,_,0,.cons _ t=>.cons r t
 | _,_,i+1,.cons q t=>.cons q (b8.set r i t)
def b8.append{xs ys:List V}{us ws:List Value}(h:b8 xs us)(s:b8 ys ws):b8 (xs++ys) (us++ws):=by
 induction h with
 | nil=>exact s
 | cons r _ ih=>exact .cons r ih
theorem b8.take:∀ {xs:List V} {us:List Value} (n:Nat),b8 xs us->b8 (xs.take n) (us.take n)
 | _,_,0,_=>.nil
 | _,_,_+1,.nil=>.nil
 | _,_,n+1,.cons r t=>.cons r (b8.take n t)
theorem b8.drop:∀ {xs:List V} {us:List Value} (n:Nat),b8 xs us->b8 (xs.drop n) (us.drop n)
 | _,_,0,r=>r
 | _,_,_+1,.nil=>.nil
 | _,_,n+1,.cons _ t=>b8.drop n t
def su:Option V->Option Value->Prop
 | some v,some u=>RelV v u
 | none,none=>True
 | _,_=>False
def KV{κ:Type}:List (κ × V)->List (κ × Value)->Prop:=Paired λ(p:κ × V) (q:κ × Value)=>p.1=q.1/\RelV p.2 q.2
def kV:eY->V
 | .inl i=>.int i
 | .inr x=>.str x
inductive HO where
 | lst (xs:List V)
 | tup (xs:List V)
 | dK (kvs:List (eY × V)) | dT (kvs:List (List eY × V))
 | set (S:Int->Bool) (n:Nat)
 | ins (C dx:Addr) (fs:List (Str × V))
 | own (x:Addr)
 | xd (fs:List (Str × V))
 | met (f x:Addr)
 | AV (lo hi:Int)
 | Hi (o:Obj) (u:HO)
 | Qv (ps:Array Value)
 | ext (φ:Heap->Prop)
abbrev Hp:=Addr->Option HO
def aM(H:Hp)(a:Addr)(o:HO):Hp:=λb=>if b=a then some o else H b
def ah{H:Hp}{a:Addr}{o:HO}:aM H a o a=⇑o:=by unfold aM;rw[if_pos rfl]
def aG{H:Hp}{a b:Addr}{o:HO}(h:b≠a):aM H a o b=H b:=by unfold aM;rw[if_neg h]
def cY{H:Hp}{a b:Addr}{o u:HO}(h:H a=⇑o)(h':H b=⇑u)(d:o≠u:=by intro z;cases z):a≠b:=by
 intro e;subst e;rw[h]at h';exact d (qC h')
def az{H:Hp}{a b:Addr}{o:HO}(h:H a=⇑o)(h':H b=none):a≠b:=by
 intro e;subst e;rw[h]at h';cases h'
section
variable (P:Program) (w:World)
def cV(H:Hp)(h:Heap)(a:Addr):HO->Prop
 | .lst xs=>↑xs<=sizeLine/\∃ (aP:List Value) (n:Nat),b8 xs aP/\h.get? a=some { cls:=.type "list",data:=.seq aP.toArray n }
 | .tup xs=>↑xs<=sizeLine/\∃ aP:List Value,b8 xs aP/\IsTup h a aP.toArray
 | .dK kvs=>↑kvs<=sizeLine/\(a == sysModules)=false/\∃ vs,KV kvs vs/\h.DictOf (fX P w) a vs
 | .dT kvs=>↑kvs<=sizeLine/\(a == sysModules)=false/\∃ xs:List (List eY × Addr × Value),
   Paired (λ(p:List eY × V) (q:List eY × Addr × Value)=>p.1=q.1/\H q.2.1=⇑(.tup (p.1.map kV))/\RelV p.2 q.2.2) kvs xs/\
   ∃ o es ep,h.get? a=⇑o/\o.ExactDict/\o.data=.dict es ep/\es.toList=xs.map (entryOfKey (tupleKind (fX P w)))/\(xs.map (·.1)).Nodup
 | .set S n=>h.SetOf (intKind P w) a S n
 | .ins C dx fs=>H dx=⇑(.own a)/\↑fs<=1000/\dx≠a/\h.get? a=⇑(instObj C dx)/\
   ∃ mA,h.Ns1 dx mA/\(∀ f,su (fs.lookup f) (mA f))/\PySem.Within mA (fs.map (·.1))
 | .own _=>∃ o,h.get? a=⇑o
 | .xd fs=>∃ mA,h.Ns1 a mA/\∀ f,su (fs.lookup f) (mA f)
 | .AV lo hi=>∃ t u v,h.get? a=some { cls:=.type "range",data:=.fields #[.int lo t,.int hi u,.int 1 v] }
 | .Hi o u=>h.get? a=⇑o/\cV H h a u
 | .Qv ps=>h.get? a=some { cls:=.none,data:=.fields ps }
 | .met f x=>h.get? a=⇑(methodObj ↥f ↥x)
 | .ext φ=>φ h/\(∃ o,h.get? a=⇑o)/\∀ h1 h2:Heap,φ h1->(∀ o,h1.get? a=⇑o->h2.get? a=⇑o)->φ h2
def oH(H:Hp)(h:Heap):Prop:=∀ a o,H a=⇑o->cV P w H h a o
end
section
variable {P:Program} {w:World} {H H':Hp} {h h':Heap} {a:Addr} {o:HO}
def cV.lt(x:cV P w H h a o):a<h.objs.size:=by
 cases o with
 | lst xs=>let⟨_,_,_,_,e⟩:=x;exact Heap.lt_size e
 | tup xs=>let⟨_,_,_,p⟩:=x;exact p.lt
 | dK kvs=>let⟨_,_,_,_,o,_,_,e,_⟩:=x;exact Heap.lt_size e
 | dT kvs=>let⟨_,_,_,_,o,_,_,e,_⟩:=x;exact Heap.lt_size e
 | set S n=>let⟨o,_,_,_,e,_⟩:=x;exact Heap.lt_size e
 | ins C dx fs=>let⟨_,_,_,e,_⟩:=x;exact Heap.lt_size e
 | own y=>let⟨_,e⟩:=x;exact Heap.lt_size e
 | xd fs=>let⟨_,⟨_,_,_,e,_⟩,_⟩:=x;exact Heap.lt_size e
 | AV lo hi=>let⟨_,_,_,e⟩:=x;exact Heap.lt_size e
 | Hi ob u=>let⟨e,_⟩:=x;exact Heap.lt_size e
 | Qv ps=>exact Heap.lt_size (show h.get? a=⇑_ from x)
 | met f y=>exact Heap.lt_size (show h.get? a=⇑_ from x)
 | ext φ=>let⟨_,⟨_,e⟩,_⟩:=x;exact Heap.lt_size e
def Paired.Hj{α β:Type}{F G:α->β->Prop}{l₁:List α}{l₂:List β}(h:Paired F l₁ l₂)(f:∀ a b,F a b->G a b):Paired G l₁ l₂:=by
 induction h with
 | nil=>exact .nil
 | cons r _ ih=>exact .cons (f _ _ r) ih
theorem cV.stay(x:cV P w H h a o)(k:∀ b u,(b=a\/H b=⇑(.own a))->h.get? b=⇑u->h'.get? b=⇑u)
  (ho:∀ b,H b=⇑(.own a)->H' b=⇑(.own a)) (ht:∀ b xs,H b=⇑(.tup xs)->H' b=⇑(.tup xs)):cV P w H' h' a o:=by
 induction o with
 | lst xs=>let⟨z,aP,n,r,e⟩:=x;exact⟨z,aP,n,r,k _ _ (.inl rfl) e⟩
 | tup xs=>let⟨z,aP,r,ob,e,c⟩:=x;exact⟨z,aP,r,ob,k _ _ (.inl rfl) e,c⟩
 | dK kvs=>let⟨z,y,vs,r,ob,es,ep,e,c⟩:=x;exact⟨z,y,vs,r,ob,es,ep,k _ _ (.inl rfl) e,c⟩
 | dT kvs =>
  let⟨z,y,xs,r,ob,es,ep,e,c⟩:=x;exact⟨z,y,xs,Paired.Hj r λp q z=>⟨z.1,ht _ _ z.2.1,z.2.2⟩,ob,es,ep,k _ _ (.inl rfl) e,c⟩
 | set S n=>let⟨ob,es,ep,t,e,c⟩:=x;exact⟨ob,es,ep,t,k _ _ (.inl rfl) e,c⟩
 | ins C dx fs =>
  let⟨d,z,ne,e,mA,⟨od,es,ep,e2,c⟩,r⟩:=x;exact⟨ho _ d,z,ne,k _ _ (.inl rfl) e,mA,⟨od,es,ep,k _ _ (.inr d) e2,c⟩,r⟩
 | own y=>let⟨ob,e⟩:=x;exact⟨ob,k _ _ (.inl rfl) e⟩
 | xd fs=>let⟨mA,⟨od,es,ep,e,c⟩,r⟩:=x;exact⟨mA,⟨od,es,ep,k _ _ (.inl rfl) e,c⟩,r⟩
 | AV lo hi=>let⟨t,u,v,e⟩:=x;exact⟨t,u,v,k _ _ (.inl rfl) e⟩
 | Hi ob u ih=>let⟨e,q⟩:=x;exact⟨k _ _ (.inl rfl) e,ih q⟩
 | Qv ps =>
  have e:h.get? a=some { cls:=.none,data:=.fields ps }:=x;show h'.get? a=some { cls:=.none,data:=.fields ps };exact k a _ (.inl rfl) e
 | met f y =>
  have e:h.get? a=⇑(methodObj ↥f ↥y):=x;show h'.get? a=⇑(methodObj ↥f ↥y);exact k a _ (.inl rfl) e
 | ext φ=>let⟨p,⟨o,e⟩,st⟩:=x;exact⟨st _ _ p λo q=>k _ _ (.inl rfl) q,⟨o,k _ _ (.inl rfl) e⟩,st⟩
theorem oH.lt(x:oH P w H h)(e:H a=⇑o):a<h.objs.size:=(x a o e).lt
def oH.fresh(x:oH P w H h)(e:h.objs.size<=a):H a=none:=by
 cases q:H a with
 | none=>rfl
 | some u=>exact absurd (oG (x.lt q) e) (Nat.lt_irrefl _)
theorem oH.kept(x:oH P w H h)(k:∀ b u,h.get? b=⇑u->h'.get? b=⇑u):oH P w H h':=λa o e =>
 (x a o e).stay (λb u _ q=>k b u q) (λ_ q=>q) λ_ _ q=>q
theorem oH.laid(x:oH P w H h)(k:∀ b u,h.get? b=⇑u->h'.get? b=⇑u)(hp:h.objs.size<=a)(new:cV P w (aM H a o) h' a o):oH P w (aM H a o) h':=λb u e=>by
 have hn:=x.fresh hp;by_cases hb:b=a
 ·subst hb;rw[ah]at e;cases e;exact new
 ·rw[aG hb]at e;exact (x b u e).stay (λc v _ q=>k c v q) (λc q=>by rw[aG (az q hn)];exact q) λc xs q=>by rw[aG (az q hn)];exact q
end
def Rd(H:Hp)(a:Addr)(u:HO):Prop:=H a=⇑u\/∃ o,H a=⇑(.Hi o u)
def Rd.ok{P:Program}{w:World}{H:Hp}{h:Heap}{a:Addr}{u:HO}(r:Rd H a u)(x:oH P w H h):cV P w H h a u:=by
 rcases r with r|⟨o,r⟩
 ·exact x a u r
 ·let⟨_,q⟩:=x a _ r;exact q
def Yx:Option HO->Prop
 | some (.lst _)=>True
 | some (.dK _)=>True
 | some (.dT _)=>True
 | some (.set _ _)=>True
 | some (.ins _ _ _)=>True
 | some (.ext _)=>True
 | _=>False
section
variable {P:Program} {w:World} {H:Hp} {h h':Heap} {x e:Addr} {o':HO}
theorem oH.write(ok:oH P w H h)(mu:Yx (H x))(he:e=x\/H e=⇑(.own x))(k:∀ b u,b≠e->h.get? b=⇑u->h'.get? b=⇑u)(Qh:∃ u,h'.get? e=⇑u)
  (new:cV P w (aM H x o') h' x o'):oH P w (aM H x o') h':=λb u q=>by
 have Yy:∀ c y,H c=⇑(.own y)->c≠x:=λc y r z=>by subst z;rw[r]at mu;exact mu
 have acV:∀ c xs,H c=⇑(.tup xs)->c≠x:=λc xs r z=>by subst z;rw[r]at mu;exact mu
 by_cases hb:b=x
 ·subst hb;rw[ah]at q;cases q;exact new
 ·rw[aG hb]at q;by_cases UO:b=e
  ·have q':H b=⇑(.own x):=by
    rcases he with z|z
    ·exact absurd (UO.trans z) hb
    ·rw[UO];exact z
   rw[q]at q';cases q';let⟨v,hv⟩:=Qh;exact⟨v,by rw[UO];exact hv⟩
  ·refine (ok b u q).stay (λc v hc r=>k c v ?_ r) (λc r=>by rw[aG (Yy c b r)];exact r) λc xs r=>by rw[aG (acV c xs r)];exact r
   rcases hc with rfl|hc
   ·exact UO
   ·rintro rfl;rcases he with z|z
    ·exact Yy c b hc z
    ·rw[hc]at z;cases z;exact hb rfl
end
structure Un(fs ex:List Addr)(H H':Hp)(h h':Heap):Prop where
 keep:∀ b o,h.get? b=⇑o->H b=none->b∉fs->b∉ex->h'.get? b=⇑o
 slot:∀ b o,h.get? b=⇑o->H b=none->b∈fs->b∉ex->∃ sl,h'.get? b=some { o with slots:=sl }
 free:∀ b o,h.get? b=⇑o->H b=none->b∉ex->H' b=none
 there:∀ b o,h.get? b=⇑o->b∉ex->∃ o',h'.get? b=⇑o'
 tups:∀ b xs,H b=⇑(.tup xs)->H' b=⇑(.tup xs)
 tM:∀ b o u,H b=⇑(.Hi o u)->H' b=⇑(.Hi o u)
 uL:∀ b ps,H b=⇑(.Qv ps)->∃ yo,H' b=⇑(.Qv (ps++yo))
section
variable {fs XS ex ex':List Addr} {H H1 H2:Hp} {h h1 h2 h':Heap} {a x e:Addr} {o:HO}
def Un.any(u:Un fs ex H H1 h h1){b:Addr}{ob:Obj}(q:h.get? b=⇑ob)(n:H b=none)(hx:b∉ex):∃ sl,h1.get? b=some { ob with slots:=sl }:=by
 by_cases hb:b∈fs
 ·exact u.slot b ob q n hb hx
 ·exact⟨ob.slots,u.keep b ob q n hb hx⟩
theorem Un.kept(k:∀ b u,h.get? b=⇑u->h'.get? b=⇑u):Un fs ex H H h h' :=
 ⟨λb ob q _ _ _=>k b ob q,λb ob q _ _ _=>⟨ob.slots,k b ob q⟩,λ_ _ _ n _=>n,λb ob q _=>⟨ob,k b ob q⟩,λ_ _ q=>q,λ_ _ _ q=>q,λ_ ps q=>⟨#[],by rw[q];simp⟩⟩
theorem Un.refl:Un fs ex H H h h:=Un.kept λ_ _ q=>q
theorem Un.laid(k:∀ b u,h.get? b=⇑u->h'.get? b=⇑u)(hp:h.objs.size<=a)(hn:H a=none):Un fs ex H (aM H a o) h h' where
 keep:=λb u q _ _ _=>k b u q
 slot:=λb u q _ _ _=>⟨u.slots,k b u q⟩
 free:=λb u q n _=>by rw[aG (jM (oG (Heap.lt_size q) hp))];exact n
 there:=λb u q _=>⟨u,k b u q⟩
 tups:=λb xs q=>by rw[aG (az q hn)];exact q
 tM:=λb u xs q=>by rw[aG (az q hn)];exact q
 uL:=λb ps q=>⟨#[],by rw[aG (az q hn),q];simp⟩
def Un.write(mu:Yx (H x))(he:e=x\/H e=⇑(.own x))(k:∀ b u,b≠e->h.get? b=⇑u->h'.get? b=⇑u)(Qh:∃ u,h'.get? e=⇑u):Un fs ex H (aM H x o) h h':=by
 have hx:∀ b,H b=none->b≠x:=λb n z=>by subst z;rw[n]at mu;exact mu
 have hb:∀ b,H b=none->b≠e:=λb n z=>by
  subst z;rcases he with r|r
  ·exact hx b n r
  ·rw[n]at r;cases r
 have hm:∀ b u,H b=⇑u->¬ Yx (⇑u)->b≠x:=λb u q nm z=>by subst z;rw[q]at mu;exact nm mu
 refine⟨λb u q n _ _=>k b u (hb b n) q,λb u q n _ _=>⟨u.slots,k b u (hb b n) q⟩,λb u q n _=>by rw[aG (hx b n)];exact n,λb u q _=>?_, λb xs q=>by rw[aG (hm b _ q λz=>z)];exact q,λb u xs q=>by rw[aG (hm b _ q λz=>z)];exact q,λb ps q=>⟨#[],by rw[aG (hm b _ q λz=>z),q];simp⟩⟩;by_cases UO:b=e
 ·subst UO;exact Qh
 ·exact⟨u,k b u UO q⟩
end
def trk(h:Heap)(H:Hp):List Addr:=(List.range h.objs.size).filter λa=>(H a).isSome
def CJ(h:Heap)(H:Hp):Heap:=PySem.W.hideAll h (trk h H)
theorem KL(h:Heap)(H:Hp):(CJ h H).objs.size=h.objs.size:=PySem.W.hideAll_size _ _
theorem MZ{h:Heap}{H:Hp}{b:Addr}{o:Obj}(e:h.get? b=⇑o)(n:H b=none):(CJ h H).get? b=⇑o :=
 PySem.W.hideAll_get _ e λhm=>by
  have q:(H b).isSome=true:=(List.mem_filter.mp hm).2;rw[n]at q;simp at q
def Qw{h:Heap}{H:Hp}{b:Addr}{o:Obj}(e:(CJ h H).get? b=⇑o):h.get? b=⇑o/\H b=none:=by
 have e':h.get? b=⇑o:=PySem.W.of_hideAll (trk h H) e;exists e'
 cases q:H b with
 | none=>rfl
 | some x =>
  have hm:b∈trk h H:=List.mem_filter.mpr ⟨List.mem_range.mpr (Heap.lt_size e'),by simp[q]⟩;have z:(CJ h H).get? b=none:=PySem.W.hideAll_none (trk h H) hm;rw[z]at e;cases e
end L2
namespace L2
open Spec Rows
structure Mod(K:PySem.W.Frag)(mg:Str->Option Value)(zt:Heap):Prop where
 UP:K.In zt
 glob:zt.Ns mainGlobals mg
 blt:∃ mb,zt.Ns builtinsNs mb/\∀ x:Str,x≠"__name__"->mb x=bootBuiltins x
 nolimit:zt.NoLimit
structure Cx where
 prog:Program
 w:World
 K:PySem.W.Frag
 mg:Str->Option Value
 zt:Heap
 A:Around
 N:List Str
 s₀:Shared
 H₀:Hp
 env:Env
 zn:List Env
 stack:List Env
 ex:List Addr
 fn:Str->Bool
 calm:Bool
 pn:List (Addr × Obj)
 xe:Value->Shared->Prop
def m8(l:List Env):List Addr:=l.filterMap (·.frame)
abbrev Cx.fs(X:Cx):List Addr:=m8 X.zn
def Vis(sc:Scope)(x:Str):Prop:=sc.names.lookup x=⇑.local\/sc.names.lookup x=⇑.cell\/sc.names.lookup x=⇑.free
def Loc(sc:Scope)(x:Str):Prop:=sc.names.lookup x=⇑.local\/sc.names.lookup x=⇑.cell
def Look(env:Env)(h:Heap)(m:Str->Option Value)(x:Str)(u:Value):Prop :=
 (env.kindOf x=⇑.local/\m x=⇑u)\/((env.kindOf x=⇑.cell\/env.kindOf x=⇑.free)/\∃ c,env.cells.lookup x=⇑c/\h.IsCell c (⇑u))
structure Cx.Ok(X:Cx):Prop where
 mod:Mod X.K X.mg X.zt
 kind:X.env.scope.kind=.function
 glob:X.env.globals=mainGlobals
 blt:X.env.builtins=builtinsNs
 above:X.s₀.heap.objs.size<=X.env.locals
 inj:∀ x y c,X.env.cells.lookup x=⇑c->X.env.cells.lookup y=⇑c->x=y
 has:∀ x,(X.env.kindOf x=⇑.cell\/X.env.kindOf x=⇑.free)->∃ c,X.env.cells.lookup x=⇑c
 UQ:∀ x c,X.fn x=true->X.env.cells.lookup x=⇑c->X.s₀.heap.objs.size<=c
 hd:X.calm=true->X.A.handled=none
 frames:X.A.frames=⇑X.stack
 stk:X.stack=X.zn\/(X.stack=X.env::X.zn/\X.env.frame=⇑X.env.locals)
 exf:∀ b∈X.ex,b≠X.env.locals/\∀ x c,X.env.cells.lookup x=⇑c->c≠b
 bs:∀ b o,X.zt.get? b=⇑o->X.s₀.heap.get? b=⇑o/\X.H₀ b=none
 Qi:X.zt.objs.size<=X.s₀.heap.objs.size
 Hl:∀ b o,X.zt.get? b=⇑o->b∉X.ex
 KN:∀ b∈X.ex,b∉X.fs
 qD:X.s₀.heap.FunFrames X.zt X.zn
 Qx:∀ b∈X.fs,X.H₀ b=none
structure Inv(X:Cx)(ak:List (Addr × Obj))(σ:List (Option V))(H:Hp)(s:Shared):Prop where
 ok:X.Ok
 os:s.os=X.s₀.os
 bare:AllBare s.gens
 zt:Un X.fs X.ex X.H₀ H X.s₀.heap s.heap
 loc:∃ m,s.heap.Ns X.env.locals m/\∀ (i:Nat) (x:Str) (v:V),X.N[i]?=⇑x->σ[i]?=⇑(⇑v)->Vis X.env.scope x->∃ u,RelV v u/\Look X.env s.heap m x u
 cell:∀ x c,X.env.cells.lookup x=⇑c->∃ v,s.heap.IsCell c v
 free:H X.env.locals=none
 j7:∀ x c,X.env.cells.lookup x=⇑c->H c=none
 pin:∀ p∈X.pn++ak,s.heap.get? p.1=⇑p.2/\H p.1=none/\p.1≠X.env.locals/\p.1∉X.fs/\∀ v,p.2.data≠.cell v
 hok:oH X.prog X.w H s.heap
 len:↑σ=↑X.N
section
variable {X:Cx} {ak:List (Addr × Obj)} {σ:List (Option V)} {H H':Hp} {s:Shared} {h':Heap}
theorem Cx.Ok.acW(ok:X.Ok){b:Addr}{o:Obj}(e:X.zt.get? b=⇑o):b∉X.fs:=λhb=>by
 have:=(ok.qD.mem hb).1;rw[e]at this;cases this
theorem Inv.bs(I:Inv X ak σ H s):∀ b o,X.zt.get? b=⇑o->s.heap.get? b=⇑o/\H b=none:=λb o e =>
 ⟨I.zt.keep b o (I.ok.bs b o e).1 (I.ok.bs b o e).2 (I.ok.acW e) (I.ok.Hl b o e),I.zt.free b o (I.ok.bs b o e).1 (I.ok.bs b o e).2 (I.ok.Hl b o e)⟩
theorem Inv.bk(I:Inv X ak σ H s):∀ b o,X.zt.get? b=⇑o->s.heap.get? b=⇑o:=λb o e=>(I.bs b o e).1
theorem Inv.mod(I:Inv X ak σ H s):Mod X.K X.mg X.zt:=I.ok.mod
theorem Inv.oB(I:Inv X ak σ H s):X.K.In s.heap:=I.ok.mod.UP.keeps I.bk
theorem Inv.lt(I:Inv X ak σ H s):X.env.locals<s.heap.objs.size:=let ⟨_,hn,_⟩:=I.loc;hn.lt
theorem Inv.sz(I:Inv X ak σ H s):X.s₀.heap.objs.size<=s.heap.objs.size:=jv I.ok.above (gQ I.lt)
theorem Inv.acX(I:Inv X ak σ H s){a:Addr}(h:s.heap.objs.size<=a):a∉X.fs:=λhb=>by
 let⟨_,o,ho,_⟩:=I.ok.qD.mem hb;exact absurd (oG (Heap.lt_size ho) (jv I.sz h)) (Nat.lt_irrefl _)
theorem Inv.M0(I:Inv X ak σ H s):∀ x c,X.env.cells.lookup x=⇑c->c≠X.env.locals:=λx c e z=>by
 let⟨v,o,ho,hd⟩:=I.cell x c e;let⟨m,⟨o',es,ep,KO,hd',_⟩,_⟩:=I.loc;rw[z,KO]at ho;cases ho;rw[hd']at hd;cases hd
def Inv.qD(I:Inv X ak σ H s):s.heap.FunFrames X.zt X.zn:=by
 have all:∀ (l:List Env),(∀ b∈m8 l,b∈X.fs)->X.s₀.heap.FunFrames X.zt l->s.heap.FunFrames X.zt l:=by
  intro l
  induction l with
  | nil=>intro _ _;trivial
  | cons env r ih =>
   intro hs hl;let⟨hk,⟨L,o,hf,hn,ho,hd⟩,hr⟩:=hl;have hL:L∈X.fs:=hs L (by unfold m8;rw[List.filterMap_cons,hf];exact tL);let⟨sl,e⟩:=I.zt.slot L o ho (I.ok.Qx L hL) hL λz=>I.ok.KN L z hL;exact⟨hk,⟨L,_,hf,hn,e,hd⟩,ih (λb hb=>hs b (by unfold m8;rw[List.filterMap_cons,hf];exact oE _ hb)) hr⟩
 exact all X.zn (λ_ hb=>hb) I.ok.qD
def Inv.stack(I:Inv X ak σ H s):s.heap.FunFrames X.zt X.stack:=by
 rcases I.ok.stk with e|⟨e,hf⟩
 ·rw[e];exact I.qD
 ·rw[e];let⟨m,hn,_⟩:=I.loc;refine .cons (by rw[I.ok.kind];decide) hf hn ?_ I.qD;exact Heap.get?_none_of_le (jv I.ok.Qi I.ok.above)
theorem Inv.vY(I:Inv X ak σ H s):∀ b∈m8 X.stack,b∈X.env.locals::X.fs:=λb hb=>by
 rcases I.ok.stk with e|⟨e,hf⟩
 ·rw[e]at hb;exact oE _ hb
 ·rw[e]at hb;unfold m8 at hb;rw[List.filterMap_cons,hf]at hb;exact hb
theorem Inv.rJ(I:Inv X ak σ H s):∀ b∈m8 X.stack,H b=none:=λb hb=>by
 rcases List.mem_cons.mp (I.vY b hb) with e|hb
 ·rw[e];exact I.free
 ·let⟨_,o,ho,_⟩:=I.ok.qD.mem hb;exact I.zt.free b o ho (I.ok.Qx b hb) λz=>I.ok.KN b z hb
theorem Inv.step{g':Array GenState}{t':Nat}{d':Drawn}{ch:List Addr}(I:Inv X ak σ H s)
  (Qj:∀ b∈ch,(b∈X.ex\/X.s₀.heap.objs.size<=b)/\b≠X.env.locals/\(∀ x c,X.env.cells.lookup x=⇑c->c≠b)/\∀ p∈X.pn++ak,p.1≠b)
  (keep:∀ b o,b≠X.env.locals->b∉X.fs->b∉ch->s.heap.get? b=⇑o->H b=none->h'.get? b=⇑o)
  (slot:∀ b o,b≠X.env.locals->b∈X.fs->b∉ch->s.heap.get? b=⇑o->H b=none->∃ sl,h'.get? b=some { o with slots:=sl }) (free:∀ b o,b∉ch->s.heap.get? b=⇑o->H b=none->H' b=none)
  (there:∀ b o,b∉ch->s.heap.get? b=⇑o->∃ o',h'.get? b=⇑o')
  (tups:∀ b xs,H b=⇑(.tup xs)->H' b=⇑(.tup xs)) (tM:∀ b o u,H b=⇑(.Hi o u)->H' b=⇑(.Hi o u)) (uL:∀ b ps,H b=⇑(.Qv ps)->∃ yo,H' b=⇑(.Qv (ps++yo)))
  (ns:∀ m,s.heap.Ns X.env.locals m->h'.Ns X.env.locals m) (hok:oH X.prog X.w H' h') (hg:AllBare g') :
  Inv X ak σ H' { s with heap:=h',gens:=g',drawn:=d',toks:=t' }:=by
 have neL:∀ b o,X.s₀.heap.get? b=⇑o->b≠X.env.locals:=λb o e=>jM (oG (Heap.lt_size e) I.ok.above)
 have neC:∀ b o,X.s₀.heap.get? b=⇑o->b∉X.ex->b∉ch:=λb o e hx hb=>by
  rcases (Qj b hb).1 with z|z
  ·exact hx z
  ·exact absurd (oG (Heap.lt_size e) z) (Nat.lt_irrefl _)
 have cellK:∀ x c,X.env.cells.lookup x=⇑c->∀ v,s.heap.IsCell c v->h'.IsCell c v:=λx c e v ⟨o,ho,hd⟩=>by
  have Yz:c∉ch:=λz=>(Qj c z).2.2.1 x c e rfl;by_cases hc:c∈X.fs
  ·let⟨sl,q⟩:=slot c o (I.M0 x c e) hc Yz ho (I.j7 x c e);exact⟨_,q,hd⟩
  ·exact⟨o,keep c o (I.M0 x c e) hc Yz ho (I.j7 x c e),hd⟩
 refine⟨I.ok,I.os,hg,⟨λb o e n hb hx=>?_,λb o e n hb hx=>?_,λb o e n hx=>?_,λb o e hx=>?_,λb xs e=>tups b xs (I.zt.tups b xs e),λb o xs e=>tM b o xs (I.zt.tM b o xs e),λb ps e=>?_⟩,?_,λx c e=>?_,?_,λx c e=>?_,λp hp=>?_,hok,I.len⟩
 ·exact keep b o (neL b o e) hb (neC b o e hx) (I.zt.keep b o e n hb hx) (I.zt.free b o e n hx)
 ·let⟨sl,e1⟩:=I.zt.slot b o e n hb hx;let⟨sl',e2⟩:=slot b _ (neL b o e) hb (neC b o e hx) e1 (I.zt.free b o e n hx);exact⟨sl',e2⟩
 ·let⟨o',e1⟩:=I.zt.there b o e hx;exact free b o' (neC b o e hx) e1 (I.zt.free b o e n hx)
 ·let⟨o',e1⟩:=I.zt.there b o e hx;exact there b o' (neC b o e hx) e1
 ·let⟨m1,e1⟩:=I.zt.uL b ps e;let⟨m2,e2⟩:=uL b _ e1;exact⟨m1++m2,by rw[e2,Array.append_assoc]⟩
 ·let⟨m,hn,hl⟩:=I.loc;refine⟨m,ns m hn,λi x v e1 e2 e3=>?_⟩;let⟨u,r,l⟩:=hl i x v e1 e2 e3;exists u,r;rcases l with l|⟨k,c,e,z⟩
  ·exact .inl l
  ·exact .inr ⟨k,c,e,cellK x c e _ z⟩
 ·let⟨v,z⟩:=I.cell x c e;exact⟨v,cellK x c e v z⟩
 ·let⟨m,⟨o,_,_,ho,_⟩,_⟩:=I.loc;exact free _ o (λz=>(Qj _ z).2.1 rfl) ho I.free
 ·let⟨v,o,ho,hd⟩:=I.cell x c e;exact free c o (λz=>(Qj c z).2.2.1 x c e rfl) ho (I.j7 x c e)
 ·let⟨e,n,ne,nf,d⟩:=I.pin p hp;have Yz:p.1∉ch:=λz=>(Qj p.1 z).2.2.2 p hp rfl;exact⟨keep p.1 p.2 ne nf Yz e n,free p.1 p.2 Yz e n,ne,nf,d⟩
def Inv.un{t':Nat}(I:Inv X ak σ H s)(u:Un X.fs [] H H' s.heap h')(hok:oH X.prog X.w H' h'):Inv X ak σ H' { s with heap:=h',toks:=t' }:=by
 let⟨m,⟨o,es,ep,ho,r⟩,_⟩:=id I.loc;let⟨sl,hL⟩:=u.any ho I.free (by simp)
 exact I.step (g':=s.gens) (d':=s.drawn) (ch:=[]) (λ_ z=>nomatch z) (λb o _ hb _ e n=>u.keep b o e n hb (by simp)) (λb o _ hb _ e n=>u.slot b o e n hb (by simp)) (λb o _ e n=>u.free b o e n (by simp)) (λb o _ e=>u.there b o e (by simp)) u.tups u.tM u.uL (λm' hm=>by
  let⟨o',rK,ep',KO,r'⟩:=hm;rw[ho]at KO;cases KO
  exact⟨_,rK,ep',hL,r'⟩) hok I.bare
theorem Inv.call{g':Array GenState}{t':Nat}{d':Drawn}{ch:List Addr}(I:Inv X ak σ H s)(u:Un (m8 X.stack) ch H H' s.heap h')(hok:oH X.prog X.w H' h')(hg:AllBare g')
  (Qj:∀ b∈ch,(b∈X.ex\/X.s₀.heap.objs.size<=b)/\b≠X.env.locals/\(∀ x c,X.env.cells.lookup x=⇑c->c≠b)/\∀ p∈X.pn++ak,p.1≠b) :
  Inv X ak σ H' { s with heap:=h',gens:=g',drawn:=d',toks:=t' }:=by
 let⟨m,⟨o,es,ep,ho,r⟩,_⟩:=id I.loc;let⟨sl,hL⟩:=u.any ho I.free λz=>(Qj _ z).2.1 rfl
 exact I.step (ch:=ch) Qj (λb o hL hb hc e n=>u.keep b o e n (λz=>(List.mem_cons.mp (I.vY b z)).elim hL hb) hc) (λb o _ _ hc e n=>u.any e n hc) (λb o hc e n=>u.free b o e n hc) (λb o hc e=>u.there b o e hc) u.tups u.tM u.uL (λm' hm=>by
  let⟨o',rK,ep',KO,r'⟩:=hm;rw[ho]at KO;cases KO
  exact⟨_,rK,ep',hL,r'⟩) hok hg
theorem Inv.turned{t':Nat}{it:Addr}(I:Inv X ak σ H s)(k:∀ b o,b≠it->s.heap.get? b=⇑o->h'.get? b=⇑o)(hn:H it=none)(hL:it≠X.env.locals)
  (h1:it∈X.ex\/X.s₀.heap.objs.size<=it) (h2:∀ x c,X.env.cells.lookup x=⇑c->c≠it) (h3:∀ p∈X.pn++ak,p.1≠it):Inv X ak σ H { s with heap:=h',toks:=t' }:=by
 have TN:∀ b u,H b=⇑u->b≠it:=λb u e z=>by rw[z,hn]at e;cases e
 refine I.step (g':=s.gens) (d':=s.drawn) (ch:=[it]) (λb hb=>?_) (λb o _ _ hc e _=>k b o (λz=>hc (by simp[z])) e) (λb o _ _ hc e _=>⟨o.slots,k b o (λz=>hc (by simp[z])) e⟩) (λ_ _ _ _ n=>n) (λb o hc e=>⟨o,k b o (λz=>hc (by simp[z])) e⟩) (λ_ _ e=>e) (λ_ _ _ e=>e) (λb ps e=>⟨#[],by rw[e];simp⟩) (λm hm=>?_) (λb u e=>?_) I.bare
 ·have e:b=it:=by simpa using hb
  subst e;exact⟨h1,hL,h2,h3⟩
 ·let⟨o,es,ep,ho,r⟩:=hm;exact⟨o,es,ep,k _ o (Ne.symm hL) ho,r⟩
 ·refine (I.hok b u e).stay (λc v hc q=>k c v ?_ q) (λ_ q=>q) λ_ _ q=>q;rcases hc with z|z
  ·rw[z];exact TN b u e
  ·exact TN c _ z
theorem Inv.tok(I:Inv X ak σ H s)(t:Nat):Inv X ak σ H { s with toks:=t }:=I.un (h':=s.heap) (t':=t) Un.refl I.hok
theorem Inv.kept{t':Nat}(I:Inv X ak σ H s)(k:∀ b u,s.heap.get? b=⇑u->h'.get? b=⇑u):Inv X ak σ H { s with heap:=h',toks:=t' }:=I.un (Un.kept k) (I.hok.kept k)
theorem Inv.laid{a:Addr}{o:HO}{t':Nat}(I:Inv X ak σ H s)(k:∀ b u,s.heap.get? b=⇑u->h'.get? b=⇑u)(hp:s.heap.objs.size<=a)(new:cV X.prog X.w (aM H a o) h' a o) :
  Inv X ak σ (aM H a o) { s with heap:=h',toks:=t' }:=I.un (Un.laid k hp (I.hok.fresh hp)) (I.hok.laid k hp new)
theorem Inv.write{x e:Addr}{o:HO}{t':Nat}(I:Inv X ak σ H s)(mu:Yx (H x))(he:e=x\/H e=⇑(.own x))(k:∀ b u,b≠e->s.heap.get? b=⇑u->h'.get? b=⇑u)(Qh:∃ u,h'.get? e=⇑u)
  (new:cV X.prog X.w (aM H x o) h' x o):Inv X ak σ (aM H x o) { s with heap:=h',toks:=t' }:=I.un (Un.write mu he k Qh) (I.hok.write mu he k Qh new)
theorem Inv.Jv(I:Inv X ak σ H s)(h:∀ p∈TQ,s.heap.get? p.1=⇑p.2/\H p.1=none/\p.1≠X.env.locals/\p.1∉X.fs/\∀ v,p.2.data≠.cell v):Inv X TQ σ H s :=
 ⟨I.ok,I.os,I.bare,I.zt,I.loc,I.cell,I.free,I.j7,λp hp=>(List.mem_append.mp hp).elim (λz=>I.pin p (sj _ z)) (h p),I.hok,I.len⟩
def Ez{N:List Str}(hN:N.Nodup){i j:Nat}{x:Str}(a:N[i]?=⇑x)(b:N[j]?=⇑x):i=j:=by
 let⟨h1,e1⟩:=List.getElem?_eq_some_iff.mp a;let⟨h2,e2⟩:=List.getElem?_eq_some_iff.mp b;exact (List.getElem_inj hN).mp (e1.trans e2.symm)
theorem BD{M:Model}{A:Around}{E:Value->Shared->Prop}{i:Nat}{x:Str}{v:V}{u:Value}{Q:Unit->Shared->Prop}(I:Inv X ak σ H s)(hN:X.N.Nodup)(hi:X.N[i]?=⇑x)(hx:Loc X.env.scope x)(r:RelV v u)
  (h:∀ s',Inv X ak (σ.set i (⇑v)) H s'->(∃ a,Heap.SameBut a s.heap s'.heap/\(a=X.env.locals\/X.env.cells.lookup x=⇑a))->Q () s') (hf:X.fn x=true\/X.env.scope.names.lookup x=⇑.local:=by first|exact .inl rfl|exact .inr rfl|assumption):wpAny M A (storeName X.env x u) Q E s:=by
 let⟨m,hn,hl⟩:=id I.loc;have hcls:(X.env.scope.kind == .class || (X.env.scope.kind == .module&&X.env.locals != X.env.globals))=false:=by rw[I.ok.kind];rfl
 have hiσ:i<↑σ:=by rw[I.len];exact (List.getElem?_eq_some_iff.mp hi).1
 have M0:=I.M0
 have tracked:∀ {a:Addr} {h':Heap},(∃ o,s.heap.get? a=⇑o/\H a=none)->Heap.SameBut a s.heap h'->oH X.prog X.w H h':=λ{a h'} ha hs b ob e=>by
  let⟨_,_,Jw⟩:=ha;refine (I.hok b ob e).stay (λc w' hc q=>(hs.2 c ?_).trans q) (λ_ q=>q) λ_ _ q=>q;rintro rfl;rcases hc with rfl|hc
  ·rw[Jw]at e;cases e
  ·rw[Jw]at hc;cases hc
 rcases hx with hk|hk
 ·refine wpAny_storeName_local hk hn (λh' TR hs=>?_) hcls;let⟨oL,_,_,hoL,_⟩:=id hn;refine h _ ⟨I.ok,I.os,I.bare,⟨λb o e n hb hx=>?_,λb o e n hb hx=>?_,I.zt.free,λb o e hx=>?_,I.zt.tups,I.zt.tM,I.zt.uL⟩,⟨_,TR,λj y v' e1 e2 e3=>?_⟩,λy c e=>?_,I.free,I.j7,λp hp=>?_,tracked ⟨oL,hoL,I.free⟩ hs,by simpa using I.len⟩ ⟨_,hs,.inl rfl⟩
  ·exact (hs.2 b (jM (oG (Heap.lt_size e) I.ok.above))).trans (I.zt.keep b o e n hb hx)
  ·let⟨sl,e1⟩:=I.zt.slot b o e n hb hx;exact⟨sl,(hs.2 b (jM (oG (Heap.lt_size e) I.ok.above))).trans e1⟩
  ·let⟨o',e1⟩:=I.zt.there b o e hx;exact⟨o',(hs.2 b (jM (oG (Heap.lt_size e) I.ok.above))).trans e1⟩
  ·by_cases hj:j=i
   ·subst hj;rw[hi]at e1;cases e1;rw[List.getElem?_set_self hiσ]at e2;cases e2;exact⟨u,r,.inl ⟨hk,by simp⟩⟩
   ·rw[List.getElem?_set_ne (Ne.symm hj)]at e2;let⟨u',r',q⟩:=hl j y v' e1 e2 e3;exists u',r';rcases q with ⟨k,e⟩|⟨k,c,e,z⟩
    ·refine .inl ⟨k,?_⟩;have:y≠x:=λe=>hj (Ez hN e1 (e ▸ hi));simp[this,e]
    ·exact .inr ⟨k,c,e,z.sameBut hs (M0 y c e)⟩
  ·let⟨w',z⟩:=I.cell y c e;exact⟨w',z.sameBut hs (M0 y c e)⟩
  ·let⟨e,n,ne,nf,d⟩:=I.pin p hp;exact⟨(hs.2 p.1 ne).trans e,n,ne,nf,d⟩
 ·have hfn:X.fn x=true:=by
   rcases hf with z|z
   ·exact z
   ·rw[z]at hk;cases hk
  let⟨c,hc⟩:=I.ok.has x (.inl hk);let⟨w',z⟩:=I.cell x c hc;refine wpAny_storeName_cell I.ok.kind hk hc z (λh' YA hs=>?_);let⟨oc,hoc,acZ⟩:=id z;refine h { s with heap:=h' } ⟨I.ok,I.os,I.bare,⟨λb o e n hb hx=>?_,λb o e n hb hx=>?_,I.zt.free,λb o e hx=>?_,I.zt.tups,I.zt.tM,I.zt.uL⟩,⟨m,hn.sameBut hs (Ne.symm (M0 x c hc)),λj y v' e1 e2 e3=>?_⟩,λy c' e=>?_,I.free,I.j7,λp hp=>?_,tracked ⟨oc,hoc,I.j7 x c hc⟩ hs,by simpa using I.len⟩ ⟨c,hs,.inr hc⟩
  ·exact (hs.2 b (jM (oG (Heap.lt_size e) (I.ok.UQ x c hfn hc)))).trans (I.zt.keep b o e n hb hx)
  ·let⟨sl,e1⟩:=I.zt.slot b o e n hb hx;exact⟨sl,(hs.2 b (jM (oG (Heap.lt_size e) (I.ok.UQ x c hfn hc)))).trans e1⟩
  ·let⟨o',e1⟩:=I.zt.there b o e hx;exact⟨o',(hs.2 b (jM (oG (Heap.lt_size e) (I.ok.UQ x c hfn hc)))).trans e1⟩
  ·by_cases hj:j=i
   ·subst hj;rw[hi]at e1;cases e1;rw[List.getElem?_set_self hiσ]at e2;cases e2;exact⟨u,r,.inr ⟨.inl hk,c,hc,YA⟩⟩
   ·rw[List.getElem?_set_ne (Ne.symm hj)]at e2;let⟨u',r',q⟩:=hl j y v' e1 e2 e3;exists u',r';rcases q with q|⟨k,c',e,z'⟩
    ·exact .inl q
    ·refine .inr ⟨k,c',e,z'.sameBut hs ?_⟩;rintro rfl;exact hj (Ez hN e1 (I.ok.inj _ _ _ e hc ▸ hi))
  ·by_cases hcc:c'=c
   ·subst hcc;exact⟨_,YA⟩
   ·let⟨w2,z2⟩:=I.cell y c' e;exact⟨w2,z2.sameBut hs hcc⟩
  ·let⟨e,n,ne,nf,d⟩:=I.pin p hp;refine⟨(hs.2 p.1 ?_).trans e,n,ne,nf,d⟩;intro q;rw[q,hoc]at e;have q':oc=p.2:=qC e;exact d w' (by rw[← q'];exact acZ)
theorem qE{M:Model}{A:Around}{E:Value->Shared->Prop}{i:Nat}{x:Str}{v:V}{u:Value}{Q:Unit->Shared->Prop}(I:Inv X ak σ H s)(hN:X.N.Nodup)(hi:X.N[i]?=⇑x)(hx:Loc X.env.scope x)(r:RelV v u)
  (h:∀ s',Inv X ak (σ.set i (⇑v)) H s'->Q () s') (hf:X.fn x=true\/X.env.scope.names.lookup x=⇑.local:=by first|exact .inl rfl|exact .inr rfl|assumption):wpAny M A (storeName X.env x u) Q E s :=
 BD I hN hi hx r (λs' I' _=>h s' I') hf
theorem Inv.EA{s':Shared}{ch:List Addr}(I:Inv X ak σ H s)(ho:s'.os=s.os)(u:Un (m8 X.stack) ch H H' s.heap s'.heap)(hok:oH X.prog X.w H' s'.heap)(hg:AllBare s'.gens)
  (Qj:∀ b∈ch,(b∈X.ex\/X.s₀.heap.objs.size<=b)/\b≠X.env.locals/\(∀ x c,X.env.cells.lookup x=⇑c->c≠b)/\∀ p∈X.pn++ak,p.1≠b):Inv X ak σ H' s':=by
 let⟨h',g',d',t',o'⟩:=s';have e:o'=s.os:=ho;subst e;exact I.call (g':=g') (t':=t') (d':=d') u hok hg Qj
end
abbrev XK:=Value->Option Addr->Hp->Prop
abbrev St:=List (Option V)
abbrev VK:=V->Hp->Prop
abbrev TE:=St->Hp->VK->Prop
abbrev TT:=St->Hp->(Bool->Hp->Prop)->Prop
abbrev TA:=St->Hp->(List V->Hp->Prop)->Prop
structure Ends where
 nx:St->Hp->Prop
 rt:VK
 bk:St->Hp->Prop:=λ_ _=>False
 ct:St->Hp->Prop:=λ_ _=>False
abbrev TS:=Ends->St->Hp->Prop
inductive EP(X:Cx)(ak:List (Addr × Obj))(σ:St)(Q:VK)(u:Value)(s':Shared):Prop
 | mk (v:V) (H':Hp) (_:Inv X ak σ H' s') (_:RelV v u) (_:Q v H')
def TP(X:Cx)(ak:List (Addr × Obj))(σ:St)(Q:Bool->Hp->Prop)(b:Bool)(s':Shared):Prop:=∃ H',Inv X ak σ H' s'/\Q b H'
inductive AP(X:Cx)(ak:List (Addr × Obj))(σ:St)(Q:List V->Hp->Prop)(us:List Value)(s':Shared):Prop
 | mk (vs:List V) (H':Hp) (_:Inv X ak σ H' s') (_:b8 vs us) (_:Q vs H')
def SP(X:Cx)(ak:List (Addr × Obj))(D:Ends)(f:Flow)(s':Shared):Prop :=
 match f with
 | .next=>∃ σ' H',Inv X ak σ' H' s'/\D.nx σ' H'
 | .brk=>∃ σ' H',Inv X ak σ' H' s'/\D.bk σ' H'
 | .cont=>∃ σ' H',Inv X ak σ' H' s'/\D.ct σ' H'
 | .ret u=>∃ v σ' H',Inv X ak σ' H' s'/\RelV v u/\D.rt v H'
def PE(X:Cx)(e:Expr)(t:TE):Prop :=
 ∀ (ak:List (Addr × Obj)) (s:Shared) (σ:St) (H:Hp) (Q:VK),Inv X ak σ H s->t σ H Q->wpAny (model X.prog X.w) X.A (eval e X.env) (EP X ak σ Q) X.xe s
def PT(X:Cx)(e:Expr)(t:TT):Prop :=
 ∀ (ak:List (Addr × Obj)) (s:Shared) (σ:St) (H:Hp) (Q:Bool->Hp->Prop),Inv X ak σ H s->t σ H Q->wpAny (model X.prog X.w) X.A (isTrue e X.env (eval e X.env)) (TP X ak σ Q) X.xe s
def PW(X:Cx)(e:Expr)(t:TT):Prop :=
 ∀ (ze:Sem Value) (ak:List (Addr × Obj)) (s:Shared) (σ:St) (H:Hp) (Q:Bool->Hp->Prop),Inv X ak σ H s->t σ H Q->wpAny (model X.prog X.w) X.A (isTrue e X.env ze) (TP X ak σ Q) X.xe s
theorem PW.pt{X:Cx}{e:Expr}{t:TT}(h:PW X e t):PT X e t:=h _
def PA(X:Cx)(es:List Expr)(t:TA):Prop :=
 ∀ (pos:Pos) (ak:List (Addr × Obj)) (s:Shared) (σ:St) (H:Hp) (Q:List V->Hp->Prop),Inv X ak σ H s->t σ H Q->wpAny (model X.prog X.w) X.A (spliced (backTo pos (starEach es X.env))) (AP X ak σ Q) X.xe s
def PS(X:Cx)(st:Stmt)(t:TS):Prop :=
 ∀ (ak:List (Addr × Obj)) (s:Shared) (σ:St) (H:Hp) (D:Ends),Inv X ak σ H s->t D σ H->wpAny (model X.prog X.w) X.A (exec st X.env) (SP X ak D) X.xe s
def CK(X:Cx)(st:List Stmt)(t:TS):Prop :=
 ∀ (ak:List (Addr × Obj)) (s:Shared) (σ:St) (H:Hp) (D:Ends),Inv X ak σ H s->t D σ H->wpAny (model X.prog X.w) X.A (execs st X.env) (SP X ak D) X.xe s
theorem cI{α:Type}{t:Sem α}{Q Q':α->Shared->Prop}{M:Model}{A:Around}{E:Value->Shared->Prop}{s:Shared}(h:wpAny M A t Q E s)(hQ:∀ a s,Q a s->Q' a s):wpAny M A t Q' E s:=wpAny_mono h hQ λ_ _ x=>x
end L2
namespace L2
open Spec Rows
section
variable {X:Cx}
inductive UR(i:Nat)(σ:St)(H:Hp)(Q:VK):Prop
 | mk (v:V) (_:σ[i]?=⇑(⇑v)) (_:Q v H)
inductive isB(x:V)(H:Hp)(Q:Bool->Hp->Prop):Prop
 | mk (c:Bool) (_:x=.bl c) (_:Q c H)
inductive isI(x:V)(H:Hp)(Q:Option Int->Hp->Prop):Prop
 | mk (i:Int) (_:x=.int i) (_:Q (⇑i) H)
def tC(v:V):TE:=λ_ H Q=>Q v H
def US{i:Nat}{x:Str}(hN:X.N[i]?=⇑x)(hv:Vis X.env.scope x)(hd:(x == ("__debug__":Str))=false:=by decide)(KP:(x == ("__classdict__":Str))=false:=by decide):PE X (.Name x pos) (UR i):=by
 intro ak s σ H Q I h;let⟨v,e,h⟩:=h;let⟨m,hn,hl⟩:=I.loc;let⟨u,r,l⟩:=hl i x v hN e hv;have nO:EP X ak σ Q u s:=⟨v,H,I,r,h⟩;rcases l with ⟨hk,hm⟩|⟨hk,c,hc,hcell⟩
 ·exact wpAny_Name (wpAny_loadName_local I.ok.kind hk hn hm nO) hd
 ·rcases hk with hk|hk
  ·exact wpAny_Name (wpAny_loadName_cell I.ok.kind hk hc hcell nO) hd
  ·exact wpAny_Name (wpAny_loadName_free I.ok.kind hk hc hcell nO KP) hd
theorem aC{i j pos}:PE X (.Constant (.int i) j pos) (tC (.int i)):=λ_ _ _ H _ I h=>wpAny_Constant_int ⟨.int i,H,I.tok _,⟨Y⟩,h⟩
theorem iS{b j pos}:PE X (.Constant (.bool b) j pos) (tC (.bl b)):=λ_ _ _ H _ I h=>Constant_bool ⟨.bl b,H,I,rfl,h⟩
theorem Ho{j pos}:PE X (.Constant .none j pos) (tC .fV):=λ_ _ _ H _ I h=>Constant_none ⟨.fV,H,I,rfl,h⟩
theorem bP{x j pos}:PE X (.Constant (.str x) j pos) (tC (.str x)):=λ_ _ _ H _ I h=>Calls.Constant_str ⟨.str x,H,I.tok _,⟨Y⟩,h⟩
def Gl(X:Cx)(x:Str):Prop:=X.env.kindOf x=some .globalImplicit
theorem mQ{E:Value->Shared->Prop}{s:Shared}{σ:St}{H:Hp}{x:Str}{u:Value}{Q:Value->Shared->Prop}(I:Inv X ak σ H s)(hg:Gl X x)(hm:X.mg x=⇑u)(h:Q u s)
  (hd:(x == ("__debug__":Str))=false:=by decide):wpAny (model X.prog X.w) X.A (eval (.Name x pos) X.env) Q E s :=
 Calls.Name_function_global I.ok.kind hg (Calls.loadGlobal_global (by rw[I.ok.glob];exact I.mod.glob.keeps I.bk) hm h) hd
theorem vZ{E:Value->Shared->Prop}{s:Shared}{σ:St}{H:Hp}{x:Str}{u:Value}{Q:Value->Shared->Prop}(I:Inv X ak σ H s)(hg:Gl X x)(hm:X.mg x=none)(hv:bootBuiltins x=⇑u)(h:Q u s)
  (hn:x≠"__name__":=by decide) (hd:(x == ("__debug__":Str))=false:=by decide):wpAny (model X.prog X.w) X.A (eval (.Name x pos) X.env) Q E s:=by
 let⟨mb,h1,h2⟩:=I.mod.blt;exact Calls.Name_function_global I.ok.kind hg (Calls.loadGlobal_builtin (by rw[I.ok.glob];exact I.mod.glob.keeps I.bk) hm (by rw[I.ok.blt];exact h1.keeps I.bk) ((h2 x hn).trans hv) h) hd
def CL{x:Str}{v:V}{u:Value}(hg:Gl X x)(hm:X.mg x=⇑u)(r:RelV v u)(hd:(x == ("__debug__":Str))=false:=by decide):PE X (.Name x pos) (tC v) :=
 λ_ _ _ H _ I h=>mQ I hg hm ⟨v,H,I,r,h⟩ hd
theorem Qy{x:Str}{v:V}{u:Value}(hg:Gl X x)(hm:X.mg x=none)(hv:bootBuiltins x=⇑u)(r:RelV v u)(hn:x≠"__name__":=by decide)(hd:(x == ("__debug__":Str))=false:=by decide):PE X (.Name x pos) (tC v) :=
 λ_ _ _ H _ I h=>vZ I hg hm hv ⟨v,H,I,r,h⟩ hn hd
variable {a b:Expr} {ta tb:TE} {pos:Pos}
def PC(X:Cx)(op:CmpOp)(a b:Expr)(t:TE):Prop :=
 ∀ (ak:List (Addr × Obj)) (s:Shared) (σ:St) (H:Hp) (Q:VK),Inv X ak σ H s->t σ H Q->
  wpAny (model X.prog X.w) X.A (eval a X.env) (λv s₁=>wpAny (model X.prog X.w) X.A (eval b X.env) (λu s₂=>wpAny (model X.prog X.w) X.A (compareOp op v u) (EP X ak σ Q) X.xe s₂) X.xe s₁) X.xe s
def EB(b:Expr){op:CmpOp}(h:op≠.In)(h2:op≠.NotIn):behindInMarks op b=false:=by
 have e1:(op == CmpOp.In)=false:=by cases op <;> first|rfl|exact absurd rfl h
 have e2:(op == CmpOp.NotIn)=false:=by cases op <;> first|rfl|exact absurd rfl h2
 cases b <;> simp[behindInMarks,e1,e2]
def ac0(ta:TE):TE:=fun σ H Q=>ta σ H λx H1=>Q (.bl (decide (x=.fV))) H1
def YB(ta:TE):TE:=fun σ H Q=>ta σ H λx H1=>Q (.bl (!decide (x=.fV))) H1
def RelV.EC{x:V}{v:Value}(r:RelV x v):(v == Value.none)=decide (x=.fV):=by
 cases x with
 | fV=>cases r;rfl
 | bl _=>cases r;rfl
 | int _=>let⟨t,rfl⟩:=r;rfl
 | str _=>let⟨t,rfl⟩:=r;rfl
 | Hh _=>let⟨t,rfl⟩:=r;rfl
 | TM _=>let⟨t,rfl⟩:=r;rfl
 | ref _=>cases r;rfl
 | ty _=>cases r;rfl
def M4{j gS}(ha:PE X a ta):PC X .Is a (.Constant .none j gS) (ac0 ta):=by
 intro ak s σ H Q I h;refine cI (ha ak s σ H _ I h) λv s1 AW=>?_;let⟨x,H1,I1,r1,q1⟩:=AW;exact Constant_none (is_none_gen ⟨.bl _,H1,I1,by rw[r1.EC];rfl,q1⟩)
def Jx{j gS}(ha:PE X a ta):PC X .IsNot a (.Constant .none j gS) (YB ta):=by
 intro ak s σ H Q I h;refine cI (ha ak s σ H _ I h) λv s1 ED=>?_;let⟨x,H1,I1,r1,q1⟩:=ED;exact Constant_none (isnot_none_gen ⟨.bl _,H1,I1,by rw[r1.EC];rfl,q1⟩)
def tB(t:TE):TT:=fun σ H Q=>t σ H λx H1=>isB x H1 Q
def UT{op:CmpOp}{t:TE}(h:PC X op a b t)(h1:behindInMarks op b=false:=by first|exact EB _ (by decide) (by decide)|rfl):PE X (.Compare a [op] [b] pos) t:=λak s σ H Q I hw=>wpAny_Compare1 (h ak s σ H Q I hw) h1
def zf{op:CmpOp}{t:TE}(h:PC X op a b t)(h1:behindInMarks op b=false:=by first|exact EB _ (by decide) (by decide)|rfl):PT X (.Compare a [op] [b] pos) (tB t):=by
 intro ak s σ H Q I hw;refine wpAny_isTrue_Compare1 (cI (h ak s σ H _ I hw) λv s1 h1=>cI h1 λu s2 h2=>cI h2 λc s3 ⟨x,H1,I1,r1,q1⟩=>?_) h1;let⟨d,rfl,q⟩:=q1;cases r1;exact wpAny_truthy_bool ⟨H1,I1,q⟩
def fN{e:Expr}{t:TE}(h:PE X e t)(he:∀ ze,isTrue e X.env ze=(do let v ← ze;standAt e.pos;holding [v] (truthy v)):=by intro _;rfl):PT X e (tB t):=by
 intro ak s σ H Q I hw;refine isTrue_plain (cI (h ak s σ H _ I hw) λv s1 ⟨x,H1,I1,r1,q1⟩=>?_) (he _);let⟨d,rfl,q⟩:=q1;cases r1;exact wpAny_truthy_bool ⟨H1,I1,q⟩
variable {tA tB':TT} {m9:List Expr}
def ac1(t u:TT):TT:=fun σ H Q=>t σ H λc H1=>if c=true then u σ H1 Q else Q false H1
def tOr(t u:TT):TT:=fun σ H Q=>t σ H λc H1=>if c=true then Q true H1 else u σ H1 Q
def ac2(t:TT):TT:=fun σ H Q=>t σ H λc H1=>Q (!c) H1
def mR(ha:PT X a tA):PW X (.BoolOp .And [a] pos) tA:=by
 intro wh ak s σ H Q I h;refine isTrue_and (cI (ha ak s σ H Q I h) λc s1 e=>?_)
 cases c with
 | true=>exact isTrue_and_nil e
 | false=>exact e
def v7(ha:PT X a tA):PW X (.BoolOp .Or [a] pos) tA:=by
 intro wh ak s σ H Q I h;refine isTrue_or (cI (ha ak s σ H Q I h) λc s1 e=>?_)
 cases c with
 | false=>exact isTrue_or_nil e
 | true=>exact e
def oJ(ha:PT X a tA)(hb:PW X (.BoolOp .And (b::m9) pos) tB'):PW X (.BoolOp .And (a::b::m9) pos) (ac1 tA tB'):=by
 intro wh ak s σ H Q I h;refine isTrue_and (cI (ha ak s σ H _ I h) λc s1 CM=>?_);let⟨H1,I1,q1⟩:=CM
 cases c with
 | true=>exact hb wh ak s1 σ H1 Q I1 q1
 | false=>exact⟨H1,I1,q1⟩
def sL(ha:PT X a tA)(hb:PW X (.BoolOp .Or (b::m9) pos) tB'):PW X (.BoolOp .Or (a::b::m9) pos) (tOr tA tB'):=by
 intro wh ak s σ H Q I h;refine isTrue_or (cI (ha ak s σ H _ I h) λc s1 CN=>?_);let⟨H1,I1,q1⟩:=CN
 cases c with
 | true=>exact⟨H1,I1,q1⟩
 | false=>exact hb wh ak s1 σ H1 Q I1 q1
def gg(ha:PT X a tA):PT X (.UnaryOp .Not a pos) (ac2 tA):=by
 intro ak s σ H Q I h;exact isTrue_not (ha ak s σ H (λc H1=>Q (!c) H1) I h)
def YC(ta tb:TE):TE:=fun σ H Q=>ta σ H λx H1=>isB x H1 λc H1=>if c=true then tb σ H1 Q else Q (.bl false) H1
def YD(ta:TE):TE:=fun σ H Q=>ta σ H λx H1=>isB x H1 λc H1=>Q (.bl (!c)) H1
theorem oK{op}{t:TE}(h:PE X a t):PE X (.BoolOp op [a] pos) t:=λak s σ H Q I hw=>BoolOp_one (h ak s σ H Q I hw)
def ng(ha:PE X a ta)(hb:PE X (.BoolOp .And (b::m9) pos) tb):PE X (.BoolOp .And (a::b::m9) pos) (YC ta tb):=by
 intro ak s σ H Q I h;refine BoolOp_and (cI (ha ak s σ H _ I h) λv s1 EE=>?_);let⟨x,H1,I1,r1,q1⟩:=EE;let⟨c,rfl,q1⟩:=q1;cases r1;refine wpAny_truthy_bool ?_
 cases c with
 | true=>exact hb ak s1 σ H1 Q I1 q1
 | false=>exact⟨.bl false,H1,I1,rfl,q1⟩
def UU(ha:PE X a ta):PE X (.UnaryOp .Not a pos) (YD ta):=by
 intro ak s σ H Q I h;refine UnaryOp_ (cI (ha ak s σ H _ I h) λv s1 EF=>?_);let⟨x,H1,I1,r1,q1⟩:=EF;let⟨c,rfl,q1⟩:=q1;cases r1;exact not_of (wpAny_truthy_bool ⟨.bl (!c),H1,I1,rfl,q1⟩)
def tIf(t:TT)(ta tb:TE):TE:=fun σ H Q=>t σ H λc H1=>if c=true then ta σ H1 Q else tb σ H1 Q
def EG{c:Expr}(hc:PT X c tA)(ha:PE X a ta)(hb:PE X b tb):PE X (.IfExp c a b pos) (tIf tA ta tb):=by
 intro ak s σ H Q I h;refine wpAny_IfExp (cI (hc ak s σ H _ I h) λd s1 AW=>?_);let⟨H1,I1,q1⟩:=AW
 cases d with
 | true=>exact ha ak s1 σ H1 Q I1 q1
 | false=>exact hb ak s1 σ H1 Q I1 q1
end
end L2
namespace L2
open Spec Rows
def bC(K:PySem.W.Frag)(H:Hp)(a:Addr)(xs:List V):Prop :=
 Rd H a (.lst xs)\/
  ∃ (o:Obj) (aP:Array Value) (n:Nat),K.lookup a=⇑o/\o.cls=.type "list"/\o.dict=none/\o.data=.seq aP n/\aP.size<=sizeLine/\b8 xs aP.toList
def gV(K:PySem.W.Frag)(H:Hp)(a:Addr)(xs:List V):Prop :=
 Rd H a (.tup xs)\/
  ∃ (o:Obj) (aP:Array Value) (n:Nat),K.lookup a=⇑o/\o.cls=.type "tuple"/\o.data=.seq aP n/\aP.size<=sizeLine/\b8 xs aP.toList
def ac3:Value->Option V
 | .none=>some .fV
 | .bool b=>⇑(.bl b)
 | .int i _=>⇑(.int i)
 | .str x _=>⇑(.str x)
 | .bytes b _=>⇑(.Hh b)
 | .float b _=>⇑(.TM b)
 | .ref a=>⇑↥a
 | .type n=>⇑(.ty n)
 | _=>none
def RelV.abs{x:V}{u:Value}(r:RelV x u):ac3 u=⇑x:=by
 cases x with
 | fV=>cases r;rfl
 | bl _=>cases r;rfl
 | int _=>let⟨t,rfl⟩:=r;rfl
 | str _=>let⟨t,rfl⟩:=r;rfl
 | Hh _=>let⟨t,rfl⟩:=r;rfl
 | TM _=>let⟨t,rfl⟩:=r;rfl
 | ref _=>cases r;rfl
 | ty _=>cases r;rfl
theorem RelV.inj{x y:V}{u:Value}(r:RelV x u)(q:RelV y u):x=y:=qC (r.abs.symm.trans q.abs)
theorem b8.inj:∀ {xs ys:List V} {us:List Value},b8 xs us->b8 ys us->xs=ys
 | _,_,_,.nil,.nil=>rfl
 | _,_,_,.cons r t,.cons r' t'=>by rw[r.inj r',b8.inj t t']
section
variable {X:Cx} {ak:List (Addr × Obj)} {σ:St} {H:Hp} {s:Shared} {a:Addr} {xs ys:List V}
theorem bC.of{K:PySem.W.Frag}(h:H a=⇑(.lst xs)):bC K H a xs:=.inl (.inl h)
theorem gV.of{K:PySem.W.Frag}(h:H a=⇑(.tup xs)):gV K H a xs:=.inl (.inl h)
def Inv.list(I:Inv X ak σ H s)(h:bC X.K H a xs):∃ aP:List Value,b8 xs aP/\PlainL s.heap a aP.toArray/\↑xs<=sizeLine:=by
 rcases h with h|⟨o,aP,n,hk,hc,hd,hs,hz,r⟩
 ·let⟨z,aP,n,r,e⟩:=h.ok I.hok;exact⟨aP,r,⟨_,n,e,V,rfl⟩,z⟩
 ·refine⟨aP.toList,r,⟨o,n,I.oB a o hk,hc,hd,by simpa using hs⟩,?_⟩;have e:=↑r;simp only[Array.length_toList]at e;lia
def Inv.tuple(I:Inv X ak σ H s)(h:gV X.K H a xs):∃ aP:List Value,b8 xs aP/\IsTup s.heap a aP.toArray/\↑xs<=sizeLine:=by
 rcases h with h|⟨o,aP,n,hk,hc,hs,hz,r⟩
 ·let⟨z,aP,r,p⟩:=h.ok I.hok;exact⟨aP,r,p,z⟩
 ·refine⟨aP.toList,r,⟨o,I.oB a o hk,hc,n,by simpa using hs⟩,?_⟩;have e:=↑r;simp only[Array.length_toList]at e;lia
def Inv.EH(I:Inv X ak σ H s)(h:bC X.K H a xs)(h':bC X.K H a ys):xs=ys:=by
 let⟨aP,r,⟨o,n,e,_,_,d⟩,_⟩:=I.list h;let⟨its',r',⟨o',n',e',_,_,d'⟩,_⟩:=I.list h';rw[e]at e';cases e';rw[d]at d';injection d' with d1 _;have:aP=its':=by simpa using congrArg Array.toList d1
 subst this;exact r.inj r'
def Inv.BE(I:Inv X ak σ H s)(h:gV X.K H a xs)(h':gV X.K H a ys):xs=ys:=by
 let⟨aP,r,⟨o,e,_,n,d⟩,_⟩:=I.tuple h;let⟨its',r',⟨o',e',_,n',d'⟩,_⟩:=I.tuple h';rw[e]at e';cases e';rw[d]at d';injection d' with d1 _;have:aP=its':=by simpa using congrArg Array.toList d1
 subst this;exact r.inj r'
end
abbrev Cx.yp(X:Cx)(E:Value->Shared->Prop):Cx:={ X with xe:=E }
abbrev Cx.EI(X:Cx):Cx:=X.yp λ_ _=>False
theorem Cx.Ok.yp{X:Cx}(ok:X.Ok)(E:Value->Shared->Prop):(X.yp E).Ok :=
 ⟨ok.mod,ok.kind,ok.glob,ok.blt,ok.above,ok.inj,ok.has,ok.UQ,ok.hd,ok.frames,ok.stk,ok.exf,ok.bs,ok.Qi,ok.Hl,ok.KN,ok.qD,ok.Qx⟩
theorem Cx.Ok.lM{X:Cx}{E:Value->Shared->Prop}(ok:(X.yp E).Ok):X.Ok :=
 ⟨ok.mod,ok.kind,ok.glob,ok.blt,ok.above,ok.inj,ok.has,ok.UQ,ok.hd,ok.frames,ok.stk,ok.exf,ok.bs,ok.Qi,ok.Hl,ok.KN,ok.qD,ok.Qx⟩
section
variable {X:Cx} {ak:List (Addr × Obj)} {σ:St} {H:Hp} {s:Shared} {E:Value->Shared->Prop}
theorem Inv.yp(I:Inv X ak σ H s)(E:Value->Shared->Prop):Inv (X.yp E) ak σ H s:=⟨I.ok.yp E,I.os,I.bare,I.zt,I.loc,I.cell,I.free,I.j7,I.pin,I.hok,I.len⟩
theorem Inv.lM(I:Inv (X.yp E) ak σ H s):Inv X ak σ H s:=⟨I.ok.lM,I.os,I.bare,I.zt,I.loc,I.cell,I.free,I.j7,I.pin,I.hok,I.len⟩
def SP.lM{D:Ends}{f:Flow}{s':Shared}(h:SP (X.yp E) ak D f s'):SP X ak D f s':=by
 cases f with
 | next=>let⟨σ',H',I,q⟩:=h;exact⟨σ',H',I.lM,q⟩
 | brk=>let⟨σ',H',I,q⟩:=h;exact⟨σ',H',I.lM,q⟩
 | cont=>let⟨σ',H',I,q⟩:=h;exact⟨σ',H',I.lM,q⟩
 | ret u=>let⟨v,σ',H',I,r,q⟩:=h;exact⟨v,σ',H',I.lM,r,q⟩
theorem CK.EI{st:List Stmt}{t:TS}(h:CK X.EI st t):CK X st t:=λak s σ H D I hw =>
 wpAny_mono (h ak s σ H D (I.yp _) hw) (λ_ _ q=>q.lM) λ_ _ z=>False.elim z
end
section
variable {X:Cx} {st:Stmt} {m9:List Stmt} {t u:TS} {e:Expr} {te:TE} {pos:Pos}
def YE:TS:=λD σ H=>D.nx σ H
def ac4(t u:TS):TS:=λD σ H=>t { D with nx:=u D } σ H
theorem bG:CK X [] YE:=λ_ _ σ H _ I h=>wpAny_execs_nil ⟨σ,H,I,h⟩
def ao(h1:PS X st t)(h2:CK X m9 u):CK X (st::m9) (ac4 t u):=by
 intro ak s σ H D I h;refine wpAny_execs_cons (cI (h1 ak s σ H { D with nx:=u D } I h) λf s1 q=>?_)
 cases f with
 | next =>
  let⟨σ',H',I',q⟩:=q;exact h2 ak s1 σ' H' D I' q
 | ret v=>exact q
 | brk=>exact q
 | cont=>exact q
def ay(h1:PS X st t):CK X [st] t:=by
 intro ak s σ H D I h;refine wpAny_execs_cons (cI (h1 ak s σ H D I h) λf s1 q=>?_)
 cases f with
 | next=>exact wpAny_execs_nil q
 | ret v=>exact q
 | brk=>exact q
 | cont=>exact q
def YF:TS:=λD σ H=>D.ct σ H
theorem EJ:PS X (.Continue pos) YF:=λ_ _ σ H _ I h=>wpAny_Continue ⟨σ,H,I,h⟩
def Inv.quiet{σ:St}{H:Hp}{s:Shared}(I:Inv X ak σ H s):interactive X.env=false:=by simp[interactive,I.ok.kind]
def YG(te:TE):TS:=λD σ H=>te σ H λ_ H1=>D.nx σ H1
def aV(he:PE X e te)(hs:swapsWith e none pos.line X.env=pure false:=by rfl):PS X (.Expr e pos) (YG te):=by
 intro ak s σ H D I h;exact wpAny_Expr_any (cI (he ak s σ H _ I h) λv s1 ⟨x,H1,I1,r1,q1⟩=>⟨σ,H1,I1,q1⟩) I.quiet hs
def ac5(te:TE):TS:=λD σ H=>te σ H D.rt
def aN(he:PE X e te):PS X (.Return (⇑e) pos) (ac5 te):=by
 intro ak s σ H D I h;exact wpAny_Return_some (cI (he ak s σ H _ I h) λv s1 ⟨x,H1,I1,r1,q1⟩=>⟨x,σ,H1,I1,r1,q1⟩)
def ac6(c:TT)(t u:TS):TS:=λD σ H=>c σ H λb H1=>if b=true then t D σ H1 else u D σ H1
def bS{c:Expr}{a b:List Stmt}{tc:TT}(hc:PT X c tc)(ha:CK X a t)(hb:CK X b u):PS X (.If c a b pos) (ac6 tc t u):=by
 intro ak s σ H D I h;refine wpAny_If (cI (hc ak s σ H _ I h) λd s1 ED=>?_);let⟨H1,I1,q1⟩:=ED
 cases d with
 | true=>exact ha ak s1 σ H1 D I1 q1
 | false=>exact hb ak s1 σ H1 D I1 q1
def UW:TS:=λ_ _ _=>False
theorem lN:PS X st UW:=λ_ _ _ _ _ _ h=>h.elim
end
abbrev TG:=V->St->Hp->(St->Hp->Prop)->Prop
abbrev UX:=List V->St->Hp->(St->Hp->Prop)->Prop
def PG(X:Cx)(v8:Expr)(t:TG):Prop :=
 ∀ (ak:List (Addr × Obj)) (s:Shared) (σ:St) (H:Hp) (v:V) (u:Value) (Q:St->Hp->Prop),Inv X ak σ H s->RelV v u->t v σ H Q->
  wpAny (model X.prog X.w) X.A (assign v8 X.env u) (λ_ s'=>∃ σ' H',Inv X ak σ' H' s'/\Q σ' H') X.xe s
def YH(X:Cx)(ts:List Expr)(t:UX):Prop :=
 ∀ (ak:List (Addr × Obj)) (s:Shared) (σ:St) (H:Hp) (vs:List V) (us:List Value) (Q:St->Hp->Prop),Inv X ak σ H s->b8 vs us->t vs σ H Q->
  wpAny (model X.prog X.w) X.A (assignInOrder ((assignEach ts X.env).map (·.2)) us) (λ_ s'=>∃ σ' H',Inv X ak σ' H' s'/\Q σ' H') X.xe s
abbrev UY:=V->V->V->Hp->(Hp->Prop)->Prop
def YI(X:Cx)(t:UY):Prop :=
 ∀ (ak:List (Addr × Obj)) (s:Shared) (σ:St) (H:Hp) (o i v:V) (ov iv u:Value) (Q:Hp->Prop),Inv X ak σ H s->RelV o ov->RelV i iv->RelV v u->t o i v H Q->
  wpAny (model X.prog X.w) X.A (setItem ov iv u) (λ_ s'=>∃ H',Inv X ak σ H' s'/\Q H') X.xe s
abbrev TIp:=V->V->Hp->VK->Prop
def PIp(X:Cx)(op:Operator)(t:TIp):Prop :=
 ∀ (ak:List (Addr × Obj)) (s:Shared) (σ:St) (H:Hp) (x y:V) (v u:Value) (Q:VK),Inv X ak σ H s->RelV x v->RelV y u->t x y H Q->
  wpAny (model X.prog X.w) X.A (inplaceOp op v u) (EP X ak σ Q) X.xe s
section
variable {X:Cx} {pos:Pos}
def sM(i:Nat):TG:=λv σ H Q=>Q (σ.set i (⇑v)) H
def Qz{i:Nat}{x:Str}(hN:X.N.Nodup)(hi:X.N[i]?=⇑x)(hx:Loc X.env.scope x)(hf:X.fn x=true\/X.env.scope.names.lookup x=⇑.local:=by first|exact .inl rfl|exact .inr rfl|assumption):PG X (.Name x pos) (sM i):=by
 intro ak s σ H v u Q I r h;exact wpAny_assign_Name (qE I hN hi hx r (λs' I'=>⟨_,H,I',h⟩) hf)
def ac8:UX:=λvs σ H Q=>vs=[]/\Q σ H
inductive YJ(t:TG)(u:UX)(vs:List V)(σ:St)(H:Hp)(Q:St->Hp->Prop):Prop
 | mk (v:V) (r:List V) (_:vs=v::r) (_:t v σ H fun σ' H'=>u r σ' H' Q)
def iI:YH X [] ac8:=by
 intro ak s σ H vs us Q I r h;let⟨e,h⟩:=h;subst e;cases r;exact assignInOrder_nil ⟨σ,H,I,h⟩
theorem b9{e:Expr}{es:List Expr}{t:TG}{u:UX}(h1:PG X e t)(h2:YH X es u)
  (hs:(assignEach (e::es) X.env).map (·.2)=assign e X.env::(assignEach es X.env).map (·.2):=by rfl):YH X (e::es) (YJ t u):=by
 intro ak s σ H vs us Q I r h;let⟨v,vr,e1,h⟩:=h;subst e1
 cases r with
 | cons r rr =>
  rw[hs];refine assignInOrder_cons (cI (h1 ak s σ H _ _ _ I r h) λ_ s1 CM=>?_);let⟨σ1,H1,I1,q1⟩:=CM;exact h2 ak s1 σ1 H1 _ _ Q I1 rr q1
inductive UZ(K:PySem.W.Frag)(n:Nat)(t:UX)(v:V)(σ:St)(H:Hp)(Q:St->Hp->Prop):Prop
 | mk (a:Addr) (xs:List V) (_:v=↥a) (_:gV K H a xs) (_:↑xs=n) (_:t xs σ H Q):UZ K n t v σ H Q
theorem oM{es:List Expr}{k:Nat}{t:UX}{n:Nat}(hc:X.calm=true)(h:YH X es t)
  (hn:↑(assignEach es X.env)=n:=by rfl) (uM:(assignEach es X.env).findIdx? (·.1)=none:=by rfl):PG X (.Tuple es k pos) (UZ X.K n t):=by
 intro ak s σ H v u Q I r hw;let⟨a,xs,e1,hq,hl,hw⟩:=hw;subst e1;cases r;let⟨aP,rv,ht,hz⟩:=I.tuple hq;refine assign_Tuple_tuple (I.ok.hd hc) ht (by simp[hn,← hl,rv.length]) uM λh' hx=>?_;have I1:Inv X ak σ H { s with heap:=h' }:=I.kept (t':=s.toks) λb o e=>hx b o (jM (Heap.lt_size e)) e;exact h ak _ σ H xs _ Q I1 (by simpa using rv) hw
def ac9(to ti:TE)(t:UY):TG:=λv σ H Q=>to σ H λo H1=>ti σ H1 λi H2=>t o i v H2 λH3=>Q σ H3
theorem oN{o i:Expr}{to ti:TE}{t:UY}(ho:PE X o to)(hi:PE X i ti)(hs:YI X t)
  (ha:∀ v,assign (.Subscript o i pos) X.env v=(do
   let ov ← holding [v] (eval o X.env)
   let iv ← holding [v,ov] (eval i X.env)
   standAt pos
   holding [v,ov,iv] (setItem ov iv v)
   release [v,ov,iv] []):=by intro _;rfl):PG X (.Subscript o i pos) (ac9 to ti t):=by
 intro ak s σ H v u Q I r h;rw[ha];refine wpAny_bind (wpAny_holding (cI (ho ak s σ H _ I h) λov s1 CN=>?_));let⟨x,H1,I1,r1,q1⟩:=CN;refine wpAny_bind (wpAny_holding (cI (hi ak s1 σ H1 _ I1 q1) λiv s2 EE=>?_));let⟨y,H2,I2,r2,q2⟩:=EE;refine wpAny_bind (wpAny_standAt (wpAny_bind (wpAny_holding (cI (hs ak s2 σ H2 x y v ov iv u _ I2 r1 r2 r q2) λ_ s3 EK=>?_))));let⟨H3,I3,q3⟩:=EK;exact wpAny_release ⟨σ,H3,I3,q3⟩
def M5(te:TE)(g:TG):TS:=λD σ H=>te σ H λx H1=>g x σ H1 D.nx
theorem nh{e:Expr}{te:TE}{g:TG}(he:PE X e te)(hg:PG X tg g)(hs:swapsWithSole [tg] e pos.line X.env=pure false:=by rfl)(hw:swappedStores [tg] e X.env=pure none:=by rfl)
  (h1:(assignEach [tg] X.env).map (·.2)=[assign tg X.env]:=by rfl):PS X (.Assign [tg] e pos) (M5 te g):=by
 intro ak s σ H D I h;refine wpAny_Assign_stores (cI (he ak s σ H _ I h) λv s1 ⟨x,H1,I1,r1,q1⟩=>?_) hs hw;rw[h1];exact cI (hg ak s1 σ H1 x v _ I1 r1 q1) λ_ s2 q=>q
theorem U0{i:Nat}{x:Str}{e:Expr}{te:TE}(hN:X.N.Nodup)(hi:X.N[i]?=⇑x)(hx:Loc X.env.scope x)(he:PE X e te)(hs:swapsWith e (⇑(.Name x gS)) pos.line X.env=pure false:=by rfl)(hf:X.fn x=true\/X.env.scope.names.lookup x=⇑.local:=by first|exact .inl rfl|exact .inr rfl|assumption) :
  PS X (.Assign [.Name x gS] e pos) (M5 te (sM i)):=by
 intro ak s σ H D I h;refine wpAny_Assign_Name (cI (he ak s σ H _ I h) λv s1 ⟨y,H1,I1,r1,q1⟩=>?_) hs;exact qE I1 hN hi hx r1 (λs2 I2=>⟨_,H1,I2,q1⟩) hf
def ada(i:Nat)(te:TE)(ti:TIp):TS:=λD σ H=>∃ x,σ[i]?=⇑(⇑x)/\te σ H λy H1=>ti x y H1 λz H2=>D.nx (σ.set i (⇑z)) H2
def v9{i:Nat}{x:Str}{e:Expr}{te:TE}{op:Operator}{ti:TIp}{gS:Pos}(hN:X.N.Nodup)(hi:X.N[i]?=⇑x)(hx:Loc X.env.scope x)(he:PE X e te)(ho:PIp X op ti)(hf:X.fn x=true\/X.env.scope.names.lookup x=⇑.local:=by first|exact .inl rfl|exact .inr rfl|assumption) :
  PS X (.AugAssign (.Name x gS) op e pos) (ada i te ti):=by
 intro ak s σ H D I h;let⟨v,e1,h⟩:=h;let⟨m,hn,hl⟩:=I.loc;have vis:Vis X.env.scope x:=by rcases hx with k|k;exact .inl k;exact .inr (.inl k)
 let⟨u,r,l⟩:=hl i x v hi e1 vis;refine wpAny_AugAssign_Name ?_
 have go:wpAny (model X.prog X.w) X.A (eval e X.env) (λw s₂=>wpAny (model X.prog X.w) X.A (inplaceOp op u w) (λr s₃=>wpAny (model X.prog X.w) X.A (storeName X.env x r) (λ_=>SP X ak D .next) X.xe s₃) X.xe s₂) X.xe s:=by
  refine cI (he ak s σ H _ I h) λw s1 AW=>?_;let⟨y,H1,I1,r1,q1⟩:=AW;refine cI (ho ak s1 σ H1 v y u w _ I1 r r1 q1) λz s2 ED=>?_;let⟨zv,H2,I2,r2,q2⟩:=ED;exact qE I2 hN hi hx r2 (λs3 I3=>⟨_,H2,I3,q2⟩) hf
 rcases l with ⟨hk,hm⟩|⟨hk,c,hc,hcell⟩
 ·exact wpAny_loadName_local I.ok.kind hk hn hm go
 ·rcases hk with hk|hk
  ·exact wpAny_loadName_cell I.ok.kind hk hc hcell go
  ·rcases hx with k|k
   ·have:X.env.scope.names.lookup x=⇑.free:=hk;rw[k]at this;cases this
   ·have:X.env.scope.names.lookup x=⇑.free:=hk;rw[k]at this;cases this
def ipI(f:Int->Int->Int):TIp:=λx y H Q=>∃ i j,x=.int i/\y=.int j/\Q (.int (f i j)) H
def U6:PIp X .Add (ipI λi j=>i+j):=by
 intro ak s σ H x y v u Q I r1 r2 h;let⟨i,j,e1,e2,q⟩:=h;subst e1;subst e2;let⟨t,rfl⟩:=r1;let⟨t',rfl⟩:=r2;exact iadd_int ⟨.int _,H,I.tok _,⟨Y⟩,q⟩
end
section
variable {X:Cx} {pos:Pos}
def U7(c:TT)(tb:TS):TS:=λD σ H=>∃ W:Nat->St->Hp->Prop,(∃ m,W m σ H)/\∀ m σ H,W m σ H->
 c σ H λb H1=>if b=true then ∃ N:St->Hp->Prop,(∀ σ' H',N σ' H'->∃ m',m'<m/\W m' σ' H')/\tb { D with nx:=N,ct:=N,bk:=D.nx } σ H1 else D.nx σ H1
def uN{c:Expr}{tc:TT}{tb:TS}(hp:PassesOwn (model X.prog X.w) X.A X.env X.xe)(hc:PT X c tc)(hb:CK X body tb):PS X (.While c body [] pos) (U7 tc tb):=by
 intro ak s σ H D I h;let⟨W,⟨m0,w0⟩,tN⟩:=h;refine wpAny_While (codeAny_whileLoop (λn s'=>∃ σ' H',Inv X ak σ' H' s'/\W n σ' H') ?_ m0 ⟨σ,H,I,w0⟩);rintro n s1 ⟨σ1,H1,I1,w1⟩;refine wpAny_passesOwn hp (cI (hc ak s1 σ1 H1 _ I1 (tN n σ1 H1 w1)) λb s2 EF=>?_);let⟨H2,I2,q2⟩:=EF
 cases b with
 | true =>
  let⟨N,hN,q2⟩:=q2;rw[if_pos rfl];refine wpAny_passesOwn hp (cI (hb ak s2 σ1 H2 _ I2 q2) λf s3 q3=>?_)
  cases f with
  | next =>
   let⟨σ3,H3,I3,n3⟩:=q3;let⟨m',hm,w3⟩:=hN σ3 H3 n3;exact⟨m',hm,σ3,H3,I3,w3⟩
  | cont =>
   let⟨σ3,H3,I3,n3⟩:=q3;let⟨m',hm,w3⟩:=hN σ3 H3 n3;exact⟨m',hm,σ3,H3,I3,w3⟩
  | brk=>exact q3
  | ret v=>exact q3
 | false =>
  rw[if_neg gE];exact wpAny_execs_nil ⟨σ1,H2,I2,q2⟩
end
structure It where
 go:Nat->Hp->Prop
 M6:Nat->Hp->V->Hp->Prop
 stop:Nat->Hp->Prop
def oO(X:Cx)(ak:List (Addr × Obj))(H:Hp)(b:Addr):Prop :=
 H b=none/\b≠X.env.locals/\b∉X.fs/\(b∈X.ex\/X.s₀.heap.objs.size<=b)/\(∀ x c,X.env.cells.lookup x=⇑c->c≠b)/\∀ p∈X.pn++ak,p.1≠b
def Inv.KQ{X:Cx}{σ:St}{H H':Hp}{s:Shared}{b:Addr}(I:Inv X ak σ H s)(hb:s.heap.objs.size<=b)(hn:H' b=none):oO X ak H' b:=by
 refine⟨hn,Nat.ne_of_gt (oG I.lt hb),I.acX hb,.inr (jv I.sz hb),λx c e z=>?_,λp hp z=>?_⟩
 ·let⟨v,q⟩:=I.cell x c e;exact absurd (oG q.lt (by rw[z];exact hb)) (Nat.lt_irrefl _)
 ·exact absurd (oG (Heap.lt_size (I.pin p hp).1) (by rw[z];exact hb)) (Nat.lt_irrefl _)
structure Hq(P:Program)(w:World)(K:PySem.W.Frag)(tg:Expr)(J:It)(fp:List Addr)(it:Addr)(tn:Nat->Heap->Prop):Prop where
 mem:it∈fp
 obj:∀ i h,tn i h->∀ b∈fp,∃ o,h.get? b=⇑o/\∀ v,o.data≠.cell v
 keep:∀ i h h',tn i h->(∀ b∈fp,∀ o,h.get? b=⇑o->h'.get? b=⇑o)->tn i h'
 item:∀ (X:Cx),X.prog=P->X.w=w->X.K=K->X.calm=true->∀ (i:Nat) (ak:List (Addr × Obj)) (s:Shared) (σ:St) (H:Hp) (E:Value->Shared->Prop),Inv X ak σ H s->(∀ b∈fp,oO X ak H b)->tn i s.heap->J.go i H->
  wpAny (model P w) X.A (pyNext ↥it) (λr s1=>∃ u,r=⇑u/\
   wpAny (model P w) X.A (letOwnedTupleGo tg ↥it u) (λ_ s2=>∃ x H',Inv X ak σ H' s2/\RelV x u/\J.M6 i H x H'/\tn (i+1) s2.heap/\∀ b∈fp,H' b=none) E s1) E s
 done:∀ (X:Cx),X.prog=P->X.w=w->X.K=K->X.calm=true->∀ (i:Nat) (ak:List (Addr × Obj)) (s:Shared) (σ:St) (H:Hp) (E:Value->Shared->Prop),Inv X ak σ H s->(∀ b∈fp,oO X ak H b)->tn i s.heap->J.stop i H->
  wpAny (model P w) X.A (pyNext ↥it) (λr s1=>r=none/\Inv X ak σ H s1) E s
 self:∀ (A:Around) (i:Nat) (s:Shared) (Q:Value->Shared->Prop) (E:Value->Shared->Prop),tn i s.heap->Q ↥it s->wpAny (model P w) A (pyIter ↥it) Q E s
abbrev TI:=St->Hp->(It->Hp->Prop)->Prop
def PIE(X:Cx)(ak:List (Addr × Obj))(σ:St)(tg:Expr)(R:It->Hp->Prop)(YK:Value)(s2:Shared):Prop :=
 ∃ (it:Addr) (fp:List Addr) (tn:Nat->Heap->Prop) (J:It) (H':Hp),YK=↥it/\Inv X ak σ H' s2/\Hq X.prog X.w X.K tg J fp it tn/\tn 0 s2.heap/\(∀ b∈fp,oO X ak H' b)/\R J H'
def PI(X:Cx)(tg iter:Expr)(wi:TI):Prop :=
 ∀ (ak:List (Addr × Obj)) (s:Shared) (σ:St) (H:Hp) (R:It->Hp->Prop),Inv X ak σ H s->wi σ H R->
  wpAny (model X.prog X.w) X.A (eval iter X.env) (λv s1=>wpAny (model X.prog X.w) X.A (pyIter v) (PIE X ak σ tg R) X.xe s1) X.xe s
theorem EL{M:Model}{A:Around}{E:Value->Shared->Prop}{s:Shared}{it:Addr}{u:Value}{o:Obj}{n:String}{vs:Array Value}{Q:Unit->Shared->Prop}(ho:s.heap.get? it=⇑o)(hc:o.cls=.type n)(hd:o.data=.fields vs)
  (hn:["enumerate","zip","dict_itemiterator","dict_reverseitemiterator","odict_iterator","itertools.zip_longest","itertools.pairwise"].contains n=false) (hQ:Q () s):wpAny M A (letOwnedTupleGo tg ↥it u) Q E s:=by
 unfold letOwnedTupleGo
 cases tg <;> first
  | exact wpAny_pure hQ
  | (cases u <;> first
    | exact wpAny_pure hQ
    | (refine wpAny_bind (wpAny_load ho ?_);rw[hc,hd];show wpAny M A (if (["enumerate","zip","dict_itemiterator","dict_reverseitemiterator","odict_iterator","itertools.zip_longest","itertools.pairwise"].contains n&&vs[0]? == some (rawInt _))=true then _ else _) Q E s;rw[if_neg (by intro h;rw[hn,Bool.false_and]at h;cases h)];exact wpAny_pure hQ))
def Qk(K:PySem.W.Frag)(a:Addr):It :=
 ⟨λi H=>∃ xs x,bC K H a xs/\xs[i]?=⇑x,λi H x H'=>H'=H/\∀ xs,bC K H a xs->xs[i]?=⇑x,λi H=>∃ xs,bC K H a xs/\↑xs<=i⟩
def YL(K:PySem.W.Frag)(a:Addr):It :=
 ⟨λi H=>∃ xs x,gV K H a xs/\xs[i]?=⇑x,λi H x H'=>H'=H/\∀ xs,gV K H a xs->xs[i]?=⇑x,λi H=>∃ xs,gV K H a xs/\↑xs<=i⟩
def KR(lo:Int)(n:Nat):It:=⟨λi _=>i<n,λi H x H'=>H'=H/\x=.int (lo+i),λi _=>n<=i⟩
theorem KS{P:Program}{w:World}{K:PySem.W.Frag}(a it:Addr):Hq P w K tg (Qk K a) [it] it (λi h=>h.IsListIter it a i) where
 mem:=by simp
 obj:=λi h st b hb=>by
  have e:b=it:=by simpa using hb
  subst e;let⟨o,e,c,d⟩:=st;exact⟨o,e,λv z=>by rw[d]at z;cases z⟩
 keep:=λi h h' st k=>st.at λo e=>k it (by simp) o e
 item:=by
  intro X hP hw hK hc i ak s σ H E I hf st hg;subst hP hw hK;let⟨xs,x,hq,hx⟩:=hg;let⟨aP,rv,p,hz⟩:=I.list hq;let⟨u,hu,ru⟩:=rv.get hx;let⟨f0,f1,f2,f3,f4,f5⟩:=hf it (by simp);refine wpAny_pyNext_list_item st p.isList (x:=u) (by simpa using hu) λh' CO sb=>?_;have I1:Inv X ak σ H { s with heap:=h' }:=I.turned (t':=s.toks) (λb o hb e=>(sb.2 b hb).trans e) f0 f1 f3 f4 f5;let⟨o,e,c,d⟩:=id CO;exact⟨u,rfl,EL (s:={ s with heap:=h' }) e c d (by decide) ⟨x,H,I1,ru,⟨rfl,λys hy=>by rw[I.EH hy hq];exact hx⟩,CO,λb hb=>(hf b hb).1⟩⟩
 done:=by
  intro X hP hw hK hc i ak s σ H E I hf st hg;subst hP hw hK;let⟨xs,hq,hx⟩:=hg;let⟨aP,rv,p,hz⟩:=I.list hq;let⟨f0,f1,f2,f3,f4,f5⟩:=hf it (by simp);have hl:=↑rv;exact wpAny_pyNext_list_end (I.ok.hd hc) st p.isList (by simp;lia) λh' eb=>⟨rfl,I.turned (t':=s.toks) (λb o hb e=>eb b o hb e) f0 f1 f3 f4 f5⟩
 self:=λ_ _ _ _ _ st h=>wpAny_pyIter_listiter st h
theorem Hr{P:Program}{w:World}{K:PySem.W.Frag}(a it:Addr):Hq P w K tg (YL K a) [it] it (λi h=>h.IsTupleIter it a i) where
 mem:=by simp
 obj:=λi h st b hb=>by
  have e:b=it:=by simpa using hb
  subst e;let⟨o,e,c,d⟩:=st;exact⟨o,e,λv z=>by rw[d]at z;cases z⟩
 keep:=λi h h' st k=>st.at λo e=>k it (by simp) o e
 item:=by
  intro X hP hw hK hc i ak s σ H E I hf st hg;subst hP hw hK;let⟨xs,x,hq,hx⟩:=hg;let⟨aP,rv,p,hz⟩:=I.tuple hq;let⟨u,hu,ru⟩:=rv.get hx;let⟨f0,f1,f2,f3,f4,f5⟩:=hf it (by simp);refine wpAny_pyNext_tuple_item st (show s.heap.IsTuple a aP.toArray from p) (x:=u) (by simpa using hu) λh' CO sb=>?_;have I1:Inv X ak σ H { s with heap:=h' }:=I.turned (t':=s.toks) (λb o hb e=>(sb.2 b hb).trans e) f0 f1 f3 f4 f5;let⟨o,e,c,d⟩:=id CO;exact⟨u,rfl,EL (s:={ s with heap:=h' }) e c d (by decide) ⟨x,H,I1,ru,⟨rfl,λys hy=>by rw[I.BE hy hq];exact hx⟩,CO,λb hb=>(hf b hb).1⟩⟩
 done:=by
  intro X hP hw hK hc i ak s σ H E I hf st hg;subst hP hw hK;let⟨xs,hq,hx⟩:=hg;let⟨aP,rv,p,hz⟩:=I.tuple hq;let⟨f0,f1,f2,f3,f4,f5⟩:=hf it (by simp);have hl:=↑rv;exact wpAny_pyNext_tuple_end (I.ok.hd hc) st (show s.heap.IsTuple a aP.toArray from p) (by simp;lia) λh' eb=>⟨rfl,I.turned (t':=s.toks) (λb o hb e=>eb b o hb e) f0 f1 f3 f4 f5⟩
 self:=λ_ _ _ _ _ st h=>wpAny_pyIter_tupleiter st h
theorem zg{P:Program}{w:World}{K:PySem.W.Frag}(it:Addr)(lo:Int)(n:Nat):Hq P w K tg (KR lo n) [it] it (λi h=>IsRangeIter h it (lo+(i:Nat)*1) ((n:Int)-(i:Nat)) 1) where
 mem:=by simp
 obj:=λi h st b hb=>by
  have e:b=it:=by simpa using hb
  subst e
  exact⟨_,st,λv z=>by
   have z':Data.fields _=Data.cell v:=z
   cases z'⟩
 keep:=λi h h' st k=>k it (by simp) _ st
 item:=by
  intro X hP hw hK hc i ak s σ H E I hf st hg;subst hP hw hK;let⟨f0,f1,f2,f3,f4,f5⟩:=hf it (by simp);have W:=Walks.range (prog:=X.prog) (w:=X.w) (I.ok.hd hc) it lo 1 n;refine W.item i s _ _ hg st λv h' tk hv CO kk=>?_;let⟨t,rfl⟩:=hv;have I1:Inv X ak σ H { s with heap:=h',toks:=tk }:=I.turned (λb o hb e=>kk b o (by simpa using hb) e) f0 f1 f3 f4 f5;refine⟨Y,EL (s:={ s with heap:=h',toks:=tk }) (n:="range_iterator") CO rfl rfl (by decide) ⟨.int (lo+i),H,I1,⟨t,?_⟩,⟨V⟩,CO,λb hb=>(hf b hb).1⟩⟩;rw[Int.mul_one]
 done:=by
  intro X hP hw hK hc i ak s σ H E I hf st hg;subst hP hw hK;let⟨f0,f1,f2,f3,f4,f5⟩:=hf it (by simp);exact wpAny_pyNext_range_end (I.ok.hd hc) st (by have:n<=i:=hg;lia) λh' eb=>⟨rfl,I.turned (t':=s.toks) (λb o hb e=>eb b o hb e) f0 f1 f3 f4 f5⟩
 self:=λ_ _ _ _ _ st h=>wpAny_pyIter_rangeiter st h
end L2
namespace L2
open Spec Rows
section
variable {X:Cx} {tg:Expr}
inductive isL(K:PySem.W.Frag)(x:V)(H:Hp)(R:It->Hp->Prop):Prop
 | mk (a:Addr) (_:x=↥a) (_:∃ xs,bC K H a xs) (_:R (Qk K a) H)
def TU(K:PySem.W.Frag)(tl:TE):TI:=fun σ H R=>tl σ H λx H1=>isL K x H1 R
def ade(K:PySem.W.Frag)(tl:TE):TI:=fun σ H R=>tl σ H λx H1=>∃ a,x=↥a/\(∃ xs,gV K H1 a xs)/\R (YL K a) H1
def cz{l:Expr}{tl:TE}(hl:PE X l tl):PI X tg l (TU X.K tl):=by
 intro ak s σ H R I h;refine cI (hl ak s σ H _ I h) λv s1 AW=>?_;let⟨x,H1,I1,r1,q1⟩:=AW;let⟨a,e,⟨xs,hq⟩,q⟩:=q1;subst e;cases r1;let⟨aP,rv,p,hz⟩:=I1.list hq;refine wpAny_pyIter_list p.isList ?_;refine⟨s1.heap.objs.size,[s1.heap.objs.size],P,H1,rfl,I1.kept (t':=s1.toks) λb o e=>Heap.get?_push_of_some _ e,KS a _,⟨_,Heap.get?_push_size _ rfl,V⟩,λb hb=>?_,q⟩;have e:b=s1.heap.objs.size:=by simpa using hb
 subst e;exact I1.KQ (fT _) (I1.hok.fresh (fT _))
def U8{l:Expr}{tl:TE}(hl:PE X l tl):PI X tg l (ade X.K tl):=by
 intro ak s σ H R I h;refine cI (hl ak s σ H _ I h) λv s1 ED=>?_;let⟨x,H1,I1,r1,q1⟩:=ED;let⟨a,e,⟨xs,hq⟩,q⟩:=q1;subst e;cases r1;let⟨aP,rv,p,hz⟩:=I1.tuple hq;refine wpAny_pyIter_tuple (show s1.heap.IsTuple a aP.toArray from p) ?_;refine⟨s1.heap.objs.size,[s1.heap.objs.size],P,H1,rfl,I1.kept (t':=s1.toks) λb o e=>Heap.get?_push_of_some _ e,Hr a _,⟨_,Heap.get?_push_size _ rfl,V⟩,λb hb=>?_,q⟩;have e:b=s1.heap.objs.size:=by simpa using hb
 subst e;exact I1.KQ (fT _) (I1.hok.fresh (fT _))
theorem M7{σ:St}{H:Hp}{s:Shared}{R:It->Hp->Prop}{E:Value->Shared->Prop}{lo hi:Int}{t u v:Tok}{tk:Nat}(I:Inv X ak σ H s)(h1:-(2^62)<=lo)(h2:lo<2^62)(h3:-(2^62)<=hi)(h4:hi<2^62)
  (q:R (KR lo (hi-lo).toNat) H):wpAny (model X.prog X.w) X.A (pyIter ↥s.heap.objs.size) (PIE X ak σ tg R) E { s with heap:=s.heap.push { cls:=.type "range",data:=.fields #[.int lo t,.int hi u,.int 1 v] },toks:=tk }:=by
 refine wpAny_pyIter_range (IsRange.new ..) (small_one h1 h2 h3 h4) ?_;have I1:Inv X ak σ H { s with heap:=s.heap.push { cls:=.type "range",data:=.fields #[.int lo t,.int hi u,.int 1 v] },toks:=tk }:=I.kept λb o e=>Heap.get?_push_of_some _ e;refine⟨(s.heap.push { cls:=.type "range",data:=.fields #[.int lo t,.int hi u,.int 1 v] }).objs.size,[(s.heap.push { cls:=.type "range",data:=.fields #[.int lo t,.int hi u,.int 1 v] }).objs.size],P,H,rfl, I1.kept (t':=tk) λb o e=>Heap.get?_push_of_some _ e,zg _ lo (hi-lo).toNat,?_,λb hb=>?_,q⟩
 ·have e1:lo+((0:Nat):Int)*1=lo:=by simp
  have e2:(((hi-lo).toNat:Nat):Int)-((0:Nat):Int)=Builtin.Range.rangeSize lo hi 1:=by rw[rangeSize_one];split <;> lia
  show IsRangeIter _ _ (lo+((0:Nat):Int)*1) ((((hi-lo).toNat:Nat):Int)-((0:Nat):Int)) 1;rw[e1,e2];exact Heap.get?_push_size _ rfl
 ·have e:b=(s.heap.push { cls:=.type "range",data:=.fields #[.int lo t,.int hi u,.int 1 v] }).objs.size:=by simpa using hb
  subst e;exact I1.KQ (fT _) (I1.hok.fresh (fT _))
inductive isR(vs:List V)(H:Hp)(R:It->Hp->Prop):Prop
 | mk (j:Int) (_:vs=[.int j]) (_:-(2^62)<=j) (_:j<2^62) (_:R (KR 0 j.toNat) H)
def YM(ta:TA):TI:=fun σ H R=>ta σ H λvs H1=>isR vs H1 R
def gK{a:Expr}{ta:TA}{p:Pos}(hg:Gl X "range")(hm:X.mg "range"=none)(ha:PA X [a] ta)(hs:starEach [a] X.env=[(false,eval a X.env)]:=by rfl):PI X tg (.Call (.Name "range" p) [a] [] pos) (YM ta):=by
 intro ak s σ H R I h;refine Call_ (vZ I hg hm boot_range (PyProof.Rows.callWith_type1 (cI (ha pos ak s σ H _ I h) λus s1 ⟨vs,H1,I1,r1,q1⟩=>?_) hs rfl));let⟨j,e,q1,q2,q⟩:=q1;subst e
 cases r1 with
 | cons r rr =>
  cases rr;let⟨t,rfl⟩:=r;exact call_range_1 (M7 I1 ∅ ∅ q1 q2 (by simpa using q))
def adf(wi:TI)(g:TG)(tb:TS):TS:=λD σ H=>wi σ H λJ H1=>∃ W:Nat->Nat->St->Hp->Prop,(∃ m,W 0 m σ H1)/\∀ i m σ H,W i m σ H->
 (J.stop i H/\D.nx σ H)\/(J.go i H/\∃ N:St->Hp->Prop,(∀ σ' H',N σ' H'->∃ m',m'<m/\W (i+1) m' σ' H')/\∀ x H',J.M6 i H x H'->g x σ H' fun σ2 H2=>tb { D with nx:=N,ct:=N,bk:=D.nx } σ2 H2)
def tO(fp:List Addr)(h:Heap):List (Addr × Obj):=fp.filterMap λb=>(h.get? b).map λo=>(b,o)
theorem ie{fp:List Addr}{h:Heap}{b:Addr}{o:Obj}(hb:b∈fp)(e:h.get? b=⇑o):(b,o)∈tO fp h:=List.mem_filterMap.mpr ⟨b,hb,by rw[e];rfl⟩
def KU{fp:List Addr}{h:Heap}{p:Addr × Obj}(hp:p∈tO fp h):p.1∈fp/\h.get? p.1=⇑p.2:=by
 let⟨b,hb,e⟩:=List.mem_filterMap.mp hp
 cases q:h.get? b with
 | none=>rw[q]at e;cases e
 | some o =>
  rw[q]at e;have e':(b,o)=p:=qC e;subst e';exact⟨hb,q⟩
theorem Inv.pinned{σ:St}{H:Hp}{s:Shared}{fp:List Addr}(I:Inv X ak σ H s)(hf:∀ b∈fp,oO X ak H b)(ho:∀ b∈fp,∃ o,s.heap.get? b=⇑o/\∀ v,o.data≠.cell v):Inv X (ak++tO fp s.heap) σ H s :=
 I.Jv λp hp=>(List.mem_append.mp hp).elim (λz=>I.pin p (oF _ z)) λz=>by
  let⟨hb,e⟩:=KU z;let⟨f0,f1,f2,_⟩:=hf p.1 hb;let⟨o,e',d⟩:=ho p.1 hb;rw[e]at e';cases e';exact⟨e,f0,f1,f2,d⟩
theorem Inv.nP{pl:List (Addr × Obj)}{σ:St}{H:Hp}{s:Shared}(I:Inv X (ak++pl) σ H s):Inv X ak σ H s:=I.Jv λp hp=>I.pin p (oF _ (sj _ hp))
theorem dN{iter:Expr}{wi:TI}{g:TG}{tb:TS}(hp:PassesOwn (model X.prog X.w) X.A X.env X.xe)(hc:X.calm=true)(hi:PI X tg iter wi)(hg:PG X tg g)(hb:CK X body tb)
  (hs:∀ x,foldedSetIterable iter X.env x=pure x:=by intro _;rfl):PS X (.For tg iter body [] pos) (adf wi g tb):=by
 intro ak s σ H D I h;refine wpAny_For (cI (hi ak s σ H _ I h) λv s1 h1=>cI h1 λYK s2 h2=>?_) hs;let⟨it,fp,tn,J,H2,e,I2,T,st2,f2,W,⟨m0,w0⟩,tN⟩:=h2;subst e;have tP:∀ {H':Hp},(∀ b∈fp,H' b=none)->∀ b∈fp,oO X ak H' b:=λhn b hb=>⟨hn b hb,(f2 b hb).2⟩;refine codeAny_forLoop_any (λn s'=>∃ i σ' H',Inv X ak σ' H' s'/\tn i s'.heap/\(∀ b∈fp,H' b=none)/\W i n σ' H') ?_ m0 ⟨0,σ,H2,I2,st2,λb hb=>(f2 b hb).1,w0⟩;rintro n s3 ⟨i,σ3,H3,I3,st3,fr3,w3⟩;rcases tN i n σ3 H3 w3 with ⟨stop,qn⟩|⟨go,N,hN,step⟩
 ·refine wpAny_passesOwn hp (cI (T.done X rfl rfl rfl hc i ak s3 σ3 H3 X.xe I3 (tP fr3) st3 stop) λr s4 CM=>?_);let⟨hr,I4⟩:=CM;subst hr;exact wpAny_execs_nil ⟨σ3,H3,I4,qn⟩
 ·refine wpAny_passesOwn hp (cI (T.item X rfl rfl rfl hc i ak s3 σ3 H3 X.xe I3 (tP fr3) st3 go) λr s4 CN=>?_);let⟨u,hr,h4⟩:=CN;subst hr;refine wpAny_passesOwn hp (cI h4 λ_ s5 EE=>?_);let⟨x,H5,I5,r5,y5,XT,YN⟩:=EE;have I5':=I5.pinned (tP YN) (T.obj _ _ XT);refine wpAny_passesOwn hp (cI (hg _ s5 σ3 H5 x u _ I5' r5 (step x H5 y5)) λ_ s6 EK=>?_);let⟨σ6,H6,I6,q6⟩:=EK;refine wpAny_passesOwn hp (cI (hb _ s6 σ6 H6 _ I6 q6) λf s7 q7=>?_)
  have again:∀ {σ7:St} {H7:Hp},Inv X (ak++tO fp s5.heap) σ7 H7 s7->N σ7 H7->∃ m,m<n/\∃ i σ' H',Inv X ak σ' H' s7/\tn i s7.heap/\(∀ b∈fp,H' b=none)/\W i m σ' H':=λ{σ7 H7} I7 n7=>by
   let⟨m',hm,w7⟩:=hN σ7 H7 n7;refine⟨m',hm,i+1,σ7,H7,I7.nP,T.keep _ _ _ XT λb hb o e=>(I7.pin (b,o) (oF _ (oF _ (ie hb e)))).1,λb hb=>?_,w7⟩;let⟨o,e,d⟩:=T.obj _ _ XT b hb;exact (I7.pin (b,o) (oF _ (oF _ (ie hb e)))).2.1
  cases f with
  | next=>let⟨σ7,H7,I7,n7⟩:=q7;exact again I7 n7
  | cont=>let⟨σ7,H7,I7,n7⟩:=q7;exact again I7 n7
  | brk=>let⟨σ7,H7,I7,q7⟩:=q7;exact⟨σ7,H7,I7.nP,q7⟩
  | ret v=>let⟨x7,σ7,H7,I7,r7,q7⟩:=q7;exact⟨x7,σ7,H7,I7.nP,r7,q7⟩
end
theorem dz{K:PySem.W.Frag}{a:Addr}{xs:List V}{g:TG}{tb:TS}{D:Ends}{σ:St}{H:Hp}(Pv:Nat->St->Hp->Prop)(h0:Pv 0 σ H)(hl:∀ i σ H,i<=↑xs->Pv i σ H->bC K H a xs)
  (hs:∀ i x σ H,xs[i]?=⇑x->Pv i σ H->g x σ H fun σ2 H2=>tb { D with nx:=Pv (i+1),ct:=Pv (i+1),bk:=D.nx } σ2 H2) (hd:∀ σ H,Pv ↑xs σ H->D.nx σ H) :
  ∃ W:Nat->Nat->St->Hp->Prop,(∃ m,W 0 m σ H)/\∀ i m σ H,W i m σ H->
   ((Qk K a).stop i H/\D.nx σ H)\/((Qk K a).go i H/\∃ N:St->Hp->Prop,(∀ σ' H',N σ' H'->∃ m',m'<m/\W (i+1) m' σ' H')/\∀ x H',(Qk K a).M6 i H x H'->g x σ H' fun σ2 H2=>tb { D with nx:=N,ct:=N,bk:=D.nx } σ2 H2):=by
 refine⟨λi m σ H=>m=↑xs-i/\i<=↑xs/\Pv i σ H,⟨↑xs,by simp,Nat.zero_le _,h0⟩,?_⟩;rintro i m σ H ⟨rfl,hi,p⟩;have q:=hl i σ H hi p;by_cases qz:i<↑xs
 ·refine .inr ⟨⟨xs,xs[i],q,by simp[qz]⟩,Pv (i+1),fun σ' H' p'=>⟨↑xs-(i+1),Q,rfl,qz,p'⟩,λx H' y=>?_⟩;let⟨e,y⟩:=y;subst e;exact hs i x σ _ (y xs q) p
 ·have e:i=↑xs:=by lia
  subst e;exact .inl ⟨⟨xs,q,fT _⟩,hd σ H p⟩
theorem QA{K:PySem.W.Frag}{a:Addr}{xs:List V}{g:TG}{tb:TS}{D:Ends}{σ:St}{H:Hp}(Pv:Nat->St->Hp->Prop)(h0:Pv 0 σ H)(hl:∀ i σ H,i<=↑xs->Pv i σ H->gV K H a xs)
  (hs:∀ i x σ H,xs[i]?=⇑x->Pv i σ H->g x σ H fun σ2 H2=>tb { D with nx:=Pv (i+1),ct:=Pv (i+1),bk:=D.nx } σ2 H2) (hd:∀ σ H,Pv ↑xs σ H->D.nx σ H) :
  ∃ W:Nat->Nat->St->Hp->Prop,(∃ m,W 0 m σ H)/\∀ i m σ H,W i m σ H->
   ((YL K a).stop i H/\D.nx σ H)\/((YL K a).go i H/\∃ N:St->Hp->Prop,(∀ σ' H',N σ' H'->∃ m',m'<m/\W (i+1) m' σ' H')/\∀ x H',(YL K a).M6 i H x H'->g x σ H' fun σ2 H2=>tb { D with nx:=N,ct:=N,bk:=D.nx } σ2 H2):=by
 refine⟨λi m σ H=>m=↑xs-i/\i<=↑xs/\Pv i σ H,⟨↑xs,by simp,Nat.zero_le _,h0⟩,?_⟩;rintro i m σ H ⟨rfl,hi,p⟩;have q:=hl i σ H hi p;by_cases qz:i<↑xs
 ·refine .inr ⟨⟨xs,xs[i],q,by simp[qz]⟩,Pv (i+1),fun σ' H' p'=>⟨↑xs-(i+1),Q,rfl,qz,p'⟩,λx H' y=>?_⟩;let⟨e,y⟩:=y;subst e;exact hs i x σ _ (y xs q) p
 ·have e:i=↑xs:=by lia
  subst e;exact .inl ⟨⟨xs,q,fT _⟩,hd σ H p⟩
theorem jS{lo:Int}{n:Nat}{g:TG}{tb:TS}{D:Ends}{σ:St}{H:Hp}(Pv:Nat->St->Hp->Prop)(h0:Pv 0 σ H)
  (hs:∀ i σ H,i<n->Pv i σ H->g (.int (lo+i)) σ H fun σ2 H2=>tb { D with nx:=Pv (i+1),ct:=Pv (i+1),bk:=D.nx } σ2 H2) (hd:∀ σ H,Pv n σ H->D.nx σ H) :
  ∃ W:Nat->Nat->St->Hp->Prop,(∃ m,W 0 m σ H)/\∀ i m σ H,W i m σ H->
   ((KR lo n).stop i H/\D.nx σ H)\/((KR lo n).go i H/\∃ N:St->Hp->Prop,(∀ σ' H',N σ' H'->∃ m',m'<m/\W (i+1) m' σ' H')/\∀ x H',(KR lo n).M6 i H x H'->g x σ H' fun σ2 H2=>tb { D with nx:=N,ct:=N,bk:=D.nx } σ2 H2):=by
 refine⟨λi m σ H=>m=n-i/\i<=n/\Pv i σ H,⟨n,by simp,Nat.zero_le _,h0⟩,?_⟩;rintro i m σ H ⟨rfl,hi,p⟩;by_cases qz:i<n
 ·refine .inr ⟨qz,Pv (i+1),fun σ' H' p'=>⟨n-(i+1),Q,rfl,qz,p'⟩,λx H' y=>?_⟩;let⟨e,y⟩:=y;subst e y;exact hs i σ _ qz p
 ·have e:i=n:=by lia
  subst e;exact .inl ⟨Nat.le_refl _,hd σ H p⟩
end L2
namespace L2
open Spec Rows
abbrev R2:=V->V->Hp->VK->Prop
def uJ(X:Cx)(f:Value->Value->Sem Value)(r:R2):Prop :=
 ∀ (ak:List (Addr × Obj)) (s:Shared) (σ:St) (H:Hp) (x y:V) (v u:Value) (Q:VK),Inv X ak σ H s->RelV x v->RelV y u->r x y H Q->
  wpAny (model X.prog X.w) X.A (f v u) (EP X ak σ Q) X.xe s
def UnR(X:Cx)(f:Value->Sem Value)(r:V->Hp->VK->Prop):Prop :=
 ∀ (ak:List (Addr × Obj)) (s:Shared) (σ:St) (H:Hp) (x:V) (v:Value) (Q:VK),Inv X ak σ H s->RelV x v->r x H Q->
  wpAny (model X.prog X.w) X.A (f v) (EP X ak σ Q) X.xe s
def j8(X:Cx)(f:Value)(r:List V->Hp->VK->Prop):Prop :=
 ∀ (ak:List (Addr × Obj)) (s:Shared) (σ:St) (H:Hp) (xs:List V) (us:List Value) (Q:VK),Inv X ak σ H s->b8 xs us->r xs H Q->
  wpAny (model X.prog X.w) X.A (call f us) (EP X ak σ Q) X.xe s
def adh(X:Cx)(r:V->Hp->(Bool->Hp->Prop)->Prop):Prop :=
 ∀ (ak:List (Addr × Obj)) (s:Shared) (σ:St) (H:Hp) (x:V) (v:Value) (Q:Bool->Hp->Prop),Inv X ak σ H s->RelV x v->r x H Q->
  wpAny (model X.prog X.w) X.A (truthy v) (TP X ak σ Q) X.xe s
def YO(r:R2)(ta tb:TE):TE:=fun σ H Q=>ta σ H λx H1=>tb σ H1 λy H2=>r x y H2 Q
def tUn(r:V->Hp->VK->Prop)(ta:TE):TE:=fun σ H Q=>ta σ H λx H1=>r x H1 Q
inductive rI(C:Int->Int->Prop)(g:Int->Int->V)(x y:V)(H:Hp)(Q:VK):Prop
 | mk (i j:Int) (_:x=.int i) (_:y=.int j) (_:C i j) (_:Q (g i j) H):rI C g x y H Q
inductive TV(g:Int->Int->V)(x y:V)(H:Hp)(Q:VK):Prop
 | mk (i j:Int) (_:x=.int i) (_:y=.int j) (_:Q (g i j) H)
def rU(g:Int->V):V->Hp->VK->Prop:=λx H Q=>∃ i,x=.int i/\Q (g i) H
section
variable {X:Cx} {a b c:Expr} {ta tb tc:TE} {pos:Pos}
theorem U9(ha:PE X a ta)(hb:PE X b tb){ak:List (Addr × Obj)}{s:Shared}{σ:St}{H:Hp}{R:V->V->Hp->Prop}(I:Inv X ak σ H s)
  (h:ta σ H λx H1=>tb σ H1 λy H2=>R x y H2) {Q:Value->Shared->Prop} {f:Value->Value->Sem Value}
  (hf:∀ v u s2 x y H2,Inv X ak σ H2 s2->RelV x v->RelV y u->R x y H2->wpAny (model X.prog X.w) X.A (f v u) Q X.xe s2) :
  wpAny (model X.prog X.w) X.A (eval a X.env) (λv s₁=>wpAny (model X.prog X.w) X.A (eval b X.env) (λu s₂=>wpAny (model X.prog X.w) X.A (f v u) Q X.xe s₂) X.xe s₁) X.xe s:=by
 refine cI (ha ak s σ H _ I h) λv s1 EF=>?_;let⟨x,H1,I1,r1,q1⟩:=EF;refine cI (hb ak s1 σ H1 _ I1 q1) λu s2 AW=>?_;let⟨y,H2,I2,r2,q2⟩:=AW;exact hf v u s2 x y H2 I2 r1 r2 q2
def bJ{op:Operator}{r:R2}(ho:uJ X (binaryOp op) r)(ha:PE X a ta)(hb:PE X b tb):PE X (.BinOp a op b pos) (YO r ta tb):=by
 intro ak s σ H Q I h;exact wpAny_BinOp (U9 ha hb I h λv u s2 x y H2 I2 rx ry q=>ho ak s2 σ H2 x y v u Q I2 rx ry q)
def gm{op:UnaryOp}{r:V->Hp->VK->Prop}(ho:UnR X (unaryOp op) r)(ha:PE X a ta):PE X (.UnaryOp op a pos) (tUn r ta):=by
 intro ak s σ H Q I h;exact UnaryOp_ (cI (ha ak s σ H _ I h) λv s1 ⟨x,H1,I1,r1,q1⟩=>ho ak s1 σ H1 x v Q I1 r1 q1)
theorem opI{f:Value->Value->Sem Value}{C:Int->Int->Prop}{g:Int->Int->Int}
  (rule:∀ (i j:Int) (t u:Tok) (s:Shared) (Q:Value->Shared->Prop) (E:Value->Shared->Prop),C i j->Q (.int (g i j) s.toks) { s with toks:=s.toks+1 }->wpAny (model X.prog X.w) X.A (f (.int i t) (.int j u)) Q E s) :
  uJ X f (rI C λi j=>.int (g i j)):=by
 intro ak s σ H x y v u Q I rx ry h;let⟨i,j,rfl,rfl,hc,q⟩:=h;let⟨t,rfl⟩:=rx;let⟨t',rfl⟩:=ry;exact rule i j t t' s _ _ hc ⟨.int (g i j),H,I.tok _,⟨Y⟩,q⟩
theorem YQ{f:Value->Value->Sem Value}{g:Int->Int->Int}
  (rule:∀ (i j:Int) (t u:Tok) (s:Shared) (Q:Value->Shared->Prop) (E:Value->Shared->Prop),Q (.int (g i j) s.toks) { s with toks:=s.toks+1 }->wpAny (model X.prog X.w) X.A (f (.int i t) (.int j u)) Q E s) :
  uJ X f (TV λi j=>.int (g i j)):=by
 intro ak s σ H x y v u Q I rx ry h;let⟨i,j,rfl,rfl,q⟩:=h;let⟨t,rfl⟩:=rx;let⟨t',rfl⟩:=ry;exact rule i j t t' s _ _ ⟨.int (g i j),H,I.tok _,⟨Y⟩,q⟩
theorem QB{f:Value->Value->Sem Value}{g:Int->Int->Bool}
  (rule:∀ (i j:Int) (t u:Tok) (s:Shared) (Q:Value->Shared->Prop) (E:Value->Shared->Prop),Q (.bool (g i j)) s->wpAny (model X.prog X.w) X.A (f (.int i t) (.int j u)) Q E s) :
  uJ X f (TV λi j=>.bl (g i j)):=by
 intro ak s σ H x y v u Q I rx ry h;let⟨i,j,rfl,rfl,q⟩:=h;let⟨t,rfl⟩:=rx;let⟨t',rfl⟩:=ry;exact rule i j t t' s _ _ ⟨.bl (g i j),H,I,rfl,q⟩
def adi(i j:Int):Prop:=0<=j/\j<=1000000/\i.natAbs<2^64
def Va(i j:Int):Prop:=(-(2^64)<i/\i<2^64)\/(-(2^64)<j/\j<2^64)
def Va.ok{i j:Int}(h:Va i j):IntMulOk i j:=by
 rcases h with ⟨h1,h2⟩|⟨h1,h2⟩
 ·exact .of_left (intBits_le_64 h1 h2)
 ·exact .of_right (intBits_le_64 h1 h2)
theorem eU:uJ X (binaryOp .Add) (TV λi j=>.int (i+j)):=YQ λ_ _ _ _ _ _ _ q=>add_int q
theorem cS:uJ X (binaryOp .Sub) (TV λi j=>.int (i-j)):=YQ λ_ _ _ _ _ _ _ q=>sub_int q
theorem Hs:uJ X (binaryOp .Mult) (rI Va λi j=>.int (i*j)):=opI λ_ _ _ _ _ _ _ hc q=>mul_int q hc.ok
theorem zh:uJ X (binaryOp .Mod) (rI (λ_ j=>0<j) λi j=>.int (i % j)):=opI λi j _ _ _ _ _ hc q=>by
 have h1:(0:Int)<j:=hc;exact mod_int' ∅ (by rw[Int.fmod_eq_emod_of_nonneg i ∅];exact q)
theorem M8:uJ X (binaryOp .Pow) (rI adi λi j=>.int (i^j.toNat)):=opI λ_ _ _ _ _ _ _ hc q=>pow_int_small hc.1 hc.2.1 hc.2.2 q
theorem unI{f:Value->Sem Value}{g:Int->Int}
  (rule:∀ (i:Int) (t:Tok) (s:Shared) (Q:Value->Shared->Prop) (E:Value->Shared->Prop),Q (.int (g i) s.toks) { s with toks:=s.toks+1 }->wpAny (model X.prog X.w) X.A (f (.int i t)) Q E s) :
  UnR X f (rU λi=>.int (g i)):=by
 intro ak s σ H x v Q I rx h;let⟨i,rfl,q⟩:=h;let⟨t,rfl⟩:=rx;exact rule i t s _ _ ⟨.int (g i),H,I.tok _,⟨Y⟩,q⟩
theorem dQ:UnR X (unaryOp .USub) (rU λi=>.int (-i)):=unI λ_ _ _ _ _ q=>neg_int q
end
def YR:V->V->Bool
 | .fV,.fV=>true | .fV,.int _=>true | .int _,.fV=>true | .fV,.bl _=>true | .bl _,.fV=>true | .fV,.str _=>true | .str _,.fV=>true
 | .int _,.int _=>true | .bl _,.bl _=>true | .str _,.str _=>true | .Hh _,.Hh _=>true
 | .int _,.str _=>true | .str _,.int _=>true | .bl _,.str _=>true | .str _,.bl _=>true
 | _,_=>false
def rEq:R2:=λx y H Q=>YR x y=true/\Q (.bl (decide (x=y))) H
def rNe:R2:=λx y H Q=>YR x y=true/\Q (.bl (!decide (x=y))) H
def Jy{i j:Int}:decide (V.int i=V.int j)=(i == j):=by
 rw[Bool.eq_iff_iff];simp
def M9{i j:Bool}:decide (V.bl i=V.bl j)=(i == j):=by
 rw[Bool.eq_iff_iff];simp
def Jz{i j:Str}:decide (V.str i=V.str j)=(i == j):=by
 rw[Bool.eq_iff_iff];simp
def JA{i j:Array UInt8}:decide (V.Hh i=V.Hh j)=(i.toList == j.toList):=by
 rw[Bool.eq_iff_iff];cases i;cases j;simp
section
variable {X:Cx} {a b c:Expr} {ta tb tc:TE} {pos:Pos}
def dG{σ:St}{H:Hp}{s:Shared}{Q:VK}{k k':Bool}(I:Inv X ak σ H s)(q:Q (.bl k) H)(e:k=k'):EP X ak σ Q (.bool k') s:=by
 subst e;exact⟨.bl k,H,I,rfl,q⟩
def gn:uJ X (compareOp .Eq) rEq:=by
 intro ak s σ H x y v u Q I rx ry h;let⟨hs,q⟩:=h
 cases x with
 | fV =>
  cases rx
  cases y with
  | fV=>cases ry;exact PySem.EqNone.eq_none_none (dG I q (by simp))
  | bl j=>cases ry;exact PySem.EqNone.eq_none_bool (dG I q (by simp))
  | int j=>let⟨t',rfl⟩:=ry;exact PySem.EqNone.eq_none_int (dG I q (by simp))
  | str j=>let⟨t',rfl⟩:=ry;exact PySem.EqNone.eq_none_str (dG I q (by simp))
  | _=>exact absurd (show false=true from hs) gE
 | bl i =>
  cases rx
  cases y with
  | fV=>cases ry;exact PySem.EqNone.eq_bool_none (dG I q (by simp))
  | bl j=>cases ry;exact eq_bool (dG I q M9)
  | str j=>let⟨t',rfl⟩:=ry;exact PySem.EqMixed.eq_bool_str (dG I q (by simp))
  | _=>exact absurd (show false=true from hs) gE
 | int i =>
  let⟨t,rfl⟩:=rx
  cases y with
  | fV=>cases ry;exact PySem.EqNone.eq_int_none (dG I q (by simp))
  | int j=>let⟨t',rfl⟩:=ry;exact eq_int (dG I q Jy)
  | str j=>let⟨t',rfl⟩:=ry;exact PySem.EqMixed.eq_int_str (dG I q (by simp))
  | _=>exact absurd (show false=true from hs) gE
 | str i =>
  let⟨t,rfl⟩:=rx
  cases y with
  | fV=>cases ry;exact PySem.EqNone.eq_str_none (dG I q (by simp))
  | bl j=>cases ry;exact PySem.EqMixed.eq_str_bool (dG I q (by simp))
  | int j=>let⟨t',rfl⟩:=ry;exact PySem.EqMixed.eq_str_int (dG I q (by simp))
  | str j=>let⟨t',rfl⟩:=ry;exact eq_str (dG I q Jz)
  | _=>exact absurd (show false=true from hs) gE
 | Hh i =>
  let⟨t,rfl⟩:=rx
  cases y with
  | Hh j=>let⟨t',rfl⟩:=ry;exact PySem.W.eq_bytes (dG I q JA)
  | _=>exact absurd (show false=true from hs) gE
 | _=>cases y <;> exact absurd (show false=true from hs) gE
def EM:uJ X (compareOp .NotEq) rNe:=by
 intro ak s σ H x y v u Q I rx ry h;let⟨hs,q⟩:=h
 cases x with
 | fV =>
  cases rx
  cases y with
  | fV=>cases ry;exact PySem.EqNone.ne_none_none (dG I q (by simp))
  | bl j=>cases ry;exact PySem.EqNone.ne_none_bool (dG I q (by simp))
  | int j=>let⟨t',rfl⟩:=ry;exact PySem.EqNone.ne_none_int (dG I q (by simp))
  | str j=>let⟨t',rfl⟩:=ry;exact PySem.EqNone.ne_none_str (dG I q (by simp))
  | _=>exact absurd (show false=true from hs) gE
 | bl i =>
  cases rx
  cases y with
  | fV=>cases ry;exact PySem.EqNone.ne_bool_none (dG I q (by simp))
  | bl j=>cases ry;exact ne_bool (dG I q (congrArg not M9))
  | str j=>let⟨t',rfl⟩:=ry;exact PySem.EqMixed.ne_bool_str (dG I q (by simp))
  | _=>exact absurd (show false=true from hs) gE
 | int i =>
  let⟨t,rfl⟩:=rx
  cases y with
  | fV=>cases ry;exact PySem.EqNone.ne_int_none (dG I q (by simp))
  | int j=>let⟨t',rfl⟩:=ry;exact ne_int (dG I q (congrArg not Jy))
  | str j=>let⟨t',rfl⟩:=ry;exact PySem.EqMixed.ne_int_str (dG I q (by simp))
  | _=>exact absurd (show false=true from hs) gE
 | str i =>
  let⟨t,rfl⟩:=rx
  cases y with
  | fV=>cases ry;exact PySem.EqNone.ne_str_none (dG I q (by simp))
  | bl j=>cases ry;exact PySem.EqMixed.ne_str_bool (dG I q (by simp))
  | int j=>let⟨t',rfl⟩:=ry;exact PySem.EqMixed.ne_str_int (dG I q (by simp))
  | str j=>let⟨t',rfl⟩:=ry;exact ne_str (dG I q (congrArg not Jz))
  | _=>exact absurd (show false=true from hs) gE
 | Hh i =>
  let⟨t,rfl⟩:=rx
  cases y with
  | Hh j=>let⟨t',rfl⟩:=ry;exact PySem.W.ne_bytes (dG I q (congrArg not JA))
  | _=>exact absurd (show false=true from hs) gE
 | _=>cases y <;> exact absurd (show false=true from hs) gE
theorem mS:uJ X (compareOp .Lt) (TV λi j=>.bl (decide (i<j))):=QB λ_ _ _ _ _ _ _ q=>lt_int q
theorem gy:uJ X (compareOp .LtE) (TV λi j=>.bl (decide (i<=j))):=QB λ_ _ _ _ _ _ _ q=>le_int q
theorem BF:uJ X (compareOp .Gt) (TV λi j=>.bl (decide (j<i))):=QB λ_ _ _ _ _ _ _ q=>gt_int q
theorem Na:uJ X (compareOp .GtE) (TV λi j=>.bl (decide (j<=i))):=QB λ_ _ _ _ _ _ _ q=>ge_int q
def bx(b:Expr){op:CmpOp}(h:op≠.In:=by decide)(h2:op≠.NotIn:=by decide):behindInMarks op b=false:=by
 have e1:(op == CmpOp.In)=false:=by cases op <;> first|rfl|exact absurd rfl h
 have e2:(op == CmpOp.NotIn)=false:=by cases op <;> first|rfl|exact absurd rfl h2
 cases b <;> simp[behindInMarks,e1,e2]
def gW{op:CmpOp}{r:R2}(ho:uJ X (compareOp op) r)(ha:PE X a ta)(hb:PE X b tb)(hm:behindInMarks op b=false):PE X (.Compare a [op] [b] pos) (YO r ta tb):=by
 intro ak s σ H Q I h;exact wpAny_Compare1 (U9 ha hb I h λv u s2 x y H2 I2 rx ry q=>ho ak s2 σ H2 x y v u Q I2 rx ry q) hm
def TX(t:TE):TT:=fun σ H Q=>t σ H λx H'=>isB x H' Q
def br{op:CmpOp}{r:R2}(ho:uJ X (compareOp op) r)(ha:PE X a ta)(hb:PE X b tb)(hm:behindInMarks op b=false):PT X (.Compare a [op] [b] pos) (TX (YO r ta tb)):=by
 intro ak s σ H Q I h
 refine wpAny_isTrue_Compare1 (cI (ha ak s σ H _ I h) λv s1 ⟨x,H1,I1,r1,q1⟩=>cI (hb ak s1 σ H1 _ I1 q1) λu s2 ⟨y,H2,I2,r2,q2⟩ =>
  cI (ho ak s2 σ H2 x y v u _ I2 r1 r2 q2) λc s3 ⟨z,H3,I3,r3,k,e,q3⟩=>?_) hm
 subst e;cases r3;exact wpAny_truthy_bool ⟨H3,I3,q3⟩
def Vb(r r':R2)(ta tb tc:TE):TE:=fun σ H Q=>ta σ H λx H1=>tb σ H1 λy H2=>r x y H2 λz H3=>∃ k,z=.bl k/\
 (if k=true then tc σ H3 λw' H4=>r' y w' H4 Q else Q (.bl false) H3)
theorem uO{op GZ:CmpOp}{r r':R2}(ho:uJ X (compareOp op) r)(KO:uJ X (compareOp GZ) r')(ha:PE X a ta)(hb:PE X b tb)(hc:PE X c tc)
  (hm:lastMarks [op,GZ] [b,c]=false:=by with_unfolding_all rfl):PT X (.Compare a [op,GZ] [b,c] pos) (TX (Vb r r' ta tb tc)):=by
 intro ak s σ H Q I h
 refine isTrue_chain (cI (ha ak s σ H _ I h) λv s1 ⟨x,H1,I1,r1,q1⟩=>test_link (cI (hb ak s1 σ H1 _ I1 q1) λu s2 ⟨y,H2,I2,r2,q2⟩ =>
  cI (ho ak s2 σ H2 x y v u _ I2 r1 r2 q2) λd s3 ⟨z,H3,I3,r3,k,e,q3⟩=>?_)) hm
 subst e;cases r3;refine wpAny_truthy_bool ?_
 cases k with
 | false =>
  let⟨k',e',q'⟩:=q3;cases e';exact ite_ff ⟨H3,I3,q'⟩
 | true =>
  refine ite_tt (test_last (cI (hc ak s3 σ H3 _ I3 q3) λw' s4 ⟨z',H4,I4,r4,q4⟩=>cI (KO ak s4 σ H4 y z' u w' _ I4 r2 r4 q4) λd' s5 ED=>?_));let⟨z2,H5,I5,r5,k2,e2,q5⟩:=ED;subst e2;cases r5;exact wpAny_truthy_bool ⟨H5,I5,q5⟩
def YS(K:PySem.W.Frag)(x:V)(H:Hp)(k:Bool):Prop :=
 match x with
 | .fV=>k=false
 | .bl b=>k=b
 | .int i=>k=(i != 0)
 | .str y=>↑y<=sizeLine/\k=((↑y:Int) != 0)
 | .Hh y=>y.size<=sizeLine/\k=((y.size:Int) != 0)
 | .ref p=>(∃ xs,bC K H p xs/\k=!xs.isEmpty)\/(∃ xs,gV K H p xs/\k=!xs.isEmpty)\/∃ kvs,H p=⇑(.dK kvs)/\k=!kvs.isEmpty
 | _=>False
def Ht{κ:Type}{kvs:List (κ × V)}{vs:List (κ × Value)}(r:KV kvs vs):(!vs.isEmpty)=!kvs.isEmpty:=by
 cases r <;> rfl
def zj{xs:List V}{aP:List Value}(r:b8 xs aP):(!aP.toArray.isEmpty)=!xs.isEmpty:=by
 cases r <;> simp
def tQ:(sizeLine:Nat)<2^63:=by rw[sizeLine_eq];decide
def Vc:adh X (λx H Q=>∃ k,YS X.K x H k/\Q k H):=by
 intro ak s σ H x v Q I rx h;let⟨k,e,q⟩:=h;have hl:=tQ;have hs:sizeLine=16777216:=sizeLine_eq
 cases x with
 | fV =>
  cases rx;have e':k=false:=e;subst e';exact truthy_none ⟨H,I,q⟩
 | bl b =>
  cases rx;have e':k=b:=e;subst e';exact wpAny_truthy_bool ⟨H,I,q⟩
 | int i =>
  let⟨t,rfl⟩:=rx;have e':k=(i != 0):=e;subst e';exact PySem.P.truthy_int ⟨H,I,q⟩
 | str y =>
  let⟨t,rfl⟩:=rx;obtain⟨hy,e'⟩:↑y<=sizeLine/\k=((↑y:Int) != 0):=e;subst e';exact PySem.P.truthy_str ∅ ⟨H,I.tok _,q⟩
 | Hh y =>
  let⟨t,rfl⟩:=rx;obtain⟨hy,e'⟩:y.size<=sizeLine/\k=((y.size:Int) != 0):=e;subst e';exact PySem.W.truthy_bytes ∅ ⟨H,I.tok _,q⟩
 | ref p =>
  cases rx;have e':(∃ xs,bC X.K H p xs/\k=!xs.isEmpty)\/(∃ xs,gV X.K H p xs/\k=!xs.isEmpty)\/∃ kvs,H p=⇑(.dK kvs)/\k=!kvs.isEmpty:=e;rcases e' with ⟨xs,hx,e'⟩|⟨xs,hx,e'⟩|⟨kvs,hx,e'⟩
  ·subst e';let⟨aP,r,pl,hz⟩:=I.list hx;have cZ:=↑r;exact wpAny_truthy_list pl.isList (by simp only[gZ];lia) ⟨H,I.tok _,by rw[zj r];exact q⟩
  ·subst e';let⟨aP,r,pl,hz⟩:=I.tuple hx;have cZ:=↑r;exact truthy_tuple pl (by simp only[gZ];lia) ⟨H,I.tok _,by rw[zj r];exact q⟩
  ·subst e';obtain⟨hz,hS,vs,r,m⟩:↑kvs<=sizeLine/\(p == sysModules)=false/\∃ vs,KV kvs vs/\s.heap.DictOf (fX X.prog X.w) p vs:=I.hok p _ hx;have cZ:↑kvs=↑vs:=Paired.length r;exact wpAny_truthy_dict hS m ∅ ⟨H,I.tok _,by rw[Ht r];exact q⟩
 | _=>exact (show False from e).elim
theorem lO(ha:PE X a ta)(he:∀ ze,isTrue a X.env ze=(do let v ← ze;standAt a.pos;holding [v] (truthy v))) :
  PT X a (fun σ H Q=>ta σ H λx H'=>∃ k,YS X.K x H' k/\Q k H'):=by
 intro ak s σ H Q I h;exact isTrue_plain (cI (ha ak s σ H _ I h) λv s1 ⟨x,H1,I1,r1,q1⟩=>Vc ak s1 σ H1 x v Q I1 r1 q1) (he _)
def vals1{x:V}{us:List Value}(r:b8 [x] us):∃ u,us=[u]/\RelV x u:=by
 cases r with
 | cons r1 r2=>cases r2;exact⟨Y,r1⟩
def vals2{x y:V}{us:List Value}(r:b8 [x,y] us):∃ u w',us=[u,w']/\RelV x u/\RelV y w':=by
 cases r with
 | cons r1 r2 =>
  cases r2 with
  | cons r3 r4=>cases r4;exact⟨P,rfl,r1,r3⟩
def rL(hc:X.calm=true):j8 X (.builtin "max") (λxs H Q=>∃ i j,xs=[.int i,.int j]/\Q (.int (if j > i then j else i)) H):=by
 intro ak s σ H xs us Q I r h;let⟨i,j,rfl,q⟩:=h;let⟨u,w',rfl,⟨t,rfl⟩,⟨t',rfl⟩⟩:=vals2 r;refine max_two_ints (I.ok.hd hc) λh' tk k=>⟨_,H,I.kept k,?_,q⟩;by_cases hj:j > i
 ·rw[if_pos hj,if_pos hj];exact⟨Y⟩
 ·rw[if_neg hj,if_neg hj];exact⟨Y⟩
def rM(hc:X.calm=true):j8 X (.builtin "min") (λxs H Q=>∃ i j,xs=[.int i,.int j]/\Q (.int (if j<i then j else i)) H):=by
 intro ak s σ H xs us Q I r h;let⟨i,j,rfl,q⟩:=h;let⟨u,w',rfl,⟨t,rfl⟩,⟨t',rfl⟩⟩:=vals2 r;refine min_two_ints (I.ok.hd hc) λh' tk k=>⟨_,H,I.kept k,?_,q⟩;by_cases hj:j<i
 ·rw[if_pos hj,if_pos hj];exact⟨Y⟩
 ·rw[if_neg hj,if_neg hj];exact⟨Y⟩
end
end L2
namespace L2
open Spec Rows
structure Hu(h:Heap)(x dx C:Addr)(mA:Str->Option Value):Prop where
 obj:h.get? x=⇑(instObj C dx)
 ns:h.Ns1 dx mA
 ne:dx≠x
def KW{h:Heap}{mA:Str->Option Value}(n:h.Ns1 dx mA):∃ od,h.get? dx=⇑od/\∀ name,lookIn name od=⇑(mA name):=by
 let⟨o,es,ep,ho,hd,hk,_,hm⟩:=n;refine⟨o,ho,λname=>?_⟩;have e:=hm name;unfold nsFind findBy at e;rw[← Array.find?_toList]at e;unfold lookIn;rw[hd];dsimp only;split
 ·rename_i y q;rw[q]at e;exact congrArg some e
 ·rename_i q;rw[q]at e
  have a:es.toList.any (·.refKey)=false:=by
   rw[List.any_eq_false];intro y hy;let⟨z,t,hkey⟩:=hk y (Array.mem_toList_iff.mp hy);simp[DictEntry.refKey,hkey]
  have a':¬ es.toList.any (·.refKey)=true:=by rw[a];exact gE
  rw[if_neg a'];exact congrArg some e
theorem Hu.look{h:Heap}{x C:Addr}{mA:Str->Option Value}(I:Hu h x dx C mA):∃ od,PySem.W.InstAt h x (instObj C dx) C (⇑od)/\∀ name,lookIn name od=⇑(mA name) :=
 let ⟨od,ho,hl⟩:=KW I.ns
 ⟨od,⟨I.obj,V,ho⟩,hl⟩
section
variable {prog:Program} {w:World} {A:Around} {E:Value->Shared->Prop} {s:Shared} {K:PySem.W.Frag} {x dx C f:Addr} {mA:Str->Option Value} {name:Str} {v:Value}
theorem QC{KY:Bool}{Q:Value->Shared->Prop}(X:K.In s.heap)(I:Hu s.heap x dx C mA)(hg:plainGet K C name=true)(hh:hasDictIn K C=true)
  (ha:PySem.W.findIn K ↥C name=⇑none) (hv:mA name=⇑v) (hv':PySem.W.handedIn v=true) (h:Q v { s with toks:=s.toks+1 }) :
  wpAny (model prog w) A (getAttr ↥x name KY) Q E s:=by
 let⟨od,J,hl⟩:=I.look;exact PySem.W.get_value X J (plainGet_of hg).1 (PySem.W.findObj_own hh ha rfl (by rw[hl,hv])) hv' h
theorem Nb{pl:Sem Bool}{Q:Value × List Value->Shared->Prop}(X:K.In s.heap)(I:Hu s.heap x dx C mA)(hg:plainGet K C name=true)
  (hf:PySem.W.findIn K ↥C name=⇑(⇑↥f)) (ht:isFn K ↥f=true) (hv:mA name=none) (h:Q (.ref f,[↥x]) s) :
  wpAny (model prog w) A (getMethod ↥x name pl) Q E s:=by
 let⟨od,J,hl⟩:=I.look;exact PySem.W.method_fn X J (plainGet_of hg).1 (plainGet_of hg).2 hf (beq_iff_eq.mp ht) (by show (lookIn name od).map (·.isSome)=⇑false;rw[hl,hv];rfl) h
theorem QD{ns:List Str}{Q:Unit->Shared->Prop}(X:K.In s.heap)(I:Hu s.heap x dx C mA)
  (hs:PySem.W.findIn K ↥C "__setattr__"=⇑(⇑(.builtin "object.__setattr__"))) (hp:plainOver K C=true) (ht:takerIn K C name=⇑none) (hh:hasDictIn K C=true)
  (hw:PySem.Within mA ns) (hsz:↑ns<=sizeLine)
  (h:∀ h',Hu h' x dx C (λy=>if y=name then some v else mA y)->Heap.SameBut dx s.heap h'->Q () { s with heap:=h',toks:=s.toks+2 }) :
  wpAny (model prog w) A (setAttr ↥x name v) Q E s:=by
 let⟨od,J,hl⟩:=I.look;refine PySem.W.set_plain X J hs (PySem.W.osa_open (s:={ s with toks:=s.toks+1 }) (r:=none) X J hp ht λb=>?_);let⟨cd,hc,hd'⟩:=PySem.W.any_some hh;have hx:s.heap.get? x=some ⟨↥C,⇑dx,.plain,#[]⟩:=I.obj;refine wpAny_bind (wpAny_pure (wpAny_bind (wpAny_bind (wpAny_loadPart hx (wpAny_bind (PySem.W.Looks.here (s:={ s with toks:=s.toks+1 }) (PySem.W.looks_clsIn X hc) ?_))))));rw[hd'];refine wpAny_pure (a:=⇑dx) (wpAny_bind (wpAny_pure (wpAny_bind ?_)));refine wpAny_nsSet1 (s:={ s with toks:=s.toks+1 }) I.ns λh' hn2 G1=>?_;let⟨oD,esD,epD,hoD,hdD,hcD⟩:=hn2.count (PySem.Within.cons name v hw);refine wpAny_bind (wpAny_lookBehind hoD (by rw[hdD];exact pastItsLine_dict (jv hcD (by rw[kX];lia))) ?_);exact wpAny_pure (h _ ⟨(G1.2 _ (Ne.symm I.ne)).trans I.obj,hn2,I.ne⟩ G1)
theorem Nc{R:Result->Shared->Prop}{vs:List Value}{kw:List (Str × Value)}(X:K.In s.heap)(hm:makesIn K C=true)
  (hi:PySem.W.findIn K ↥C "__init__"=⇑(⇑↥f)) (hf:PySem.W.typeIn K ↥f=⇑(.type "function"))
  (h:codeAny (model prog w) (A.under (.builtin "type.__call__" ⟨↥C::vs,kw⟩)) (.call ↥f ⟨.ref (s.heap.objs.size+1)::vs,kw⟩) (PySem.W.InitBack (s.heap.objs.size+1) R)
   { s with heap:=(s.heap.push emptyDict).push (instObj C s.heap.objs.size) }) :
  codeAny (model prog w) A (.call ↥C ⟨vs,kw⟩) R s:=by
 let⟨hh,g,d,t,os⟩:=s;exact PySem.W.make_core (PySem.W.makes_of X hm) (PySem.W.looks_findIn X hi) (λself=>PySem.W.bind_fn X self hf) (.inl rfl) h
end
def dR(f:Str)(v:V):List (Str × V)->List (Str × V)
 | []=>[(f,v)]
 | (g,x)::r=>if g=f then (g,v)::r else (g,x)::dR f v r
theorem xS(f g:Str)(v:V):∀ fs:List (Str × V),(dR f v fs).lookup g=if g=f then some v else fs.lookup g
 | []=>by
  show List.lookup g [(f,v)]=_;by_cases h:g=f
  ·have hb:(g == f)=true:=beq_iff_eq.mpr h;simp only[List.lookup,hb,if_pos h]
  ·have hb:(g == f)=false:=beq_eq_false_iff_ne.mpr h;simp only[List.lookup,hb,if_neg h]
 | (k,x)::r=>by
  have ih:=xS f g v r;rw[show dR f v ((k,x)::r)=(if k=f then (k,v)::r else (k,x)::dR f v r) from rfl];by_cases hk:k=f
  ·rw[if_pos hk];by_cases h:g=k
   ·have hb:(g == k)=true:=beq_iff_eq.mpr h;simp only[List.lookup,hb,if_pos (h.trans hk)]
   ·have hb:(g == k)=false:=beq_eq_false_iff_ne.mpr h;simp only[List.lookup,hb,if_neg (λe:g=f=>h (e.trans hk.symm))]
  ·rw[if_neg hk];by_cases h:g=k
   ·have hb:(g == k)=true:=beq_iff_eq.mpr h;simp only[List.lookup,hb,if_neg (λe:g=f=>hk (h.symm.trans e))]
   ·have hb:(g == k)=false:=beq_eq_false_iff_ne.mpr h;simp only[List.lookup,hb];exact ih
theorem wc(f:Str)(v:V):∀ fs:List (Str × V),f∈(dR f v fs).map (·.1)/\∀ g,g∈fs.map (·.1)->g∈(dR f v fs).map (·.1)
 | []=>⟨by simp[dR],λg h=>by simp at h⟩
 | (k,x)::r=>by
  let⟨i1,i2⟩:=wc f v r;rw[show dR f v ((k,x)::r)=(if k=f then (k,v)::r else (k,x)::dR f v r) from rfl];by_cases hk:k=f
  ·rw[if_pos hk];subst hk;exact⟨by simp,λg h=>by simpa using h⟩
  ·rw[if_neg hk];refine⟨?_,λg h=>?_⟩
   ·rw[jy];exact oE _ i1
   ·rw[jy]at h ⊢;rcases List.mem_cons.mp h with e|e
    ·exact List.mem_cons.mpr (.inl e)
    ·exact oE _ (i2 g e)
theorem xT(f:Str)(v:V):∀ fs:List (Str × V),↑(dR f v fs)<=↑fs+1
 | []=>by simp[dR]
 | (k,x)::r=>by
  have ih:=xT f v r;rw[show dR f v ((k,x)::r)=(if k=f then (k,v)::r else (k,x)::dR f v r) from rfl];by_cases hk:k=f
  ·rw[if_pos hk,kX,kX];lia
  ·rw[if_neg hk,kX,kX];lia
def su.some_of{v:V}{o:Option Value}(r:su (⇑v) o):∃ u,o=⇑u/\RelV v u:=by
 cases o with
 | none=>exact (show False from r).elim
 | some u=>exact⟨u,rfl,r⟩
def su.none_of{o:Option Value}(r:su none o):o=none:=by
 cases o with
 | none=>rfl
 | some u=>exact (show False from r).elim
def KZ{v:V}{u:Value}(r:RelV v u):PySem.W.handedIn u=true:=by
 cases v with
 | fV=>cases (show u=Value.none from r);rfl
 | bl b=>cases (show u=Value.bool b from r);rfl
 | int i=>let⟨t,e⟩:=(show ∃ t,u=Value.int i t from r);cases e;rfl
 | str x=>let⟨t,e⟩:=(show ∃ t,u=Value.str x t from r);cases e;rfl
 | Hh b=>let⟨t,e⟩:=(show ∃ t,u=Value.bytes b t from r);cases e;rfl
 | TM b=>let⟨t,e⟩:=(show ∃ t,u=Value.float b t from r);cases e;rfl
 | ref a=>cases (show u=Value.ref a from r);rfl
 | ty n=>cases (show u=Value.type n from r);rfl
section
variable {P:Program} {w:World} {H H':Hp} {h h':Heap} {a C dx:Addr} {fs XS:List (Str × V)}
def yQ(hok:oH P w H h)(e:H a=⇑(.ins C dx fs)):∃ mA,Hu h a dx C mA/\(∀ f,su (fs.lookup f) (mA f))/\PySem.Within mA (fs.map (·.1))/\↑fs<=1000/\H dx=⇑(.own a):=by
 let⟨d,z,ne,ob,mA,n,r,q⟩:=(show cV P w H h a (.ins C dx fs) from hok a _ e);exact⟨mA,⟨ob,n,ne⟩,r,q,z,d⟩
end
structure JB(K:PySem.W.Frag)(C:Addr):Prop where
 pg:plainGet K C Str.empty=true
 hd:hasDictIn K C=true
 po:plainOver K C=true
 sa:PySem.W.findIn K ↥C "__setattr__"=⇑(⇑(.builtin "object.__setattr__"))
theorem JB.get{K:PySem.W.Frag}{C:Addr}(c:JB K C)(f:Str):plainGet K C f=true:=c.pg
def fO(K:PySem.W.Frag)(C:Addr)(f:Str):Prop:=PySem.W.findIn K ↥C f=⇑none
def fO.YT{K:PySem.W.Frag}{C:Addr}{f:Str}(n:fO K C f):takerIn K C f=⇑none:=by
 unfold takerIn;rw[show PySem.W.findIn K ↥C f=⇑none from n];rfl
structure Hv(K:PySem.W.Frag)(C:Addr)(m:Str)(f:Addr):Prop where
 at_:PySem.W.findIn K ↥C m=⇑(⇑↥f)
 fn:isFn K ↥f=true
 kp:PySem.W.keepIn K ↥f=true
section
variable {X:Cx} {ak:List (Addr × Obj)} {σ:St} {H:Hp} {s:Shared} {a C dx:Addr} {fs:List (Str × V)} {f:Str} {v:V} {A:Around} {E:Value->Shared->Prop}
theorem zk{b:Bool}{Q:Value->Shared->Prop}(I:Inv X ak σ H s)(e:H a=⇑(.ins C dx fs))(c:JB X.K C)(n:fO X.K C f)(l:fs.lookup f=⇑v)
  (h:∀ u s',Inv X ak σ H s'->RelV v u->Q u s'):wpAny (model X.prog X.w) A (getAttr ↥a f b) Q E s:=by
 let⟨mA,O,r,_,_,_⟩:=yQ I.hok e;let⟨u,hu,ru⟩:=su.some_of (v:=v) (o:=mA f) (by rw[← l];exact r f);exact QC I.oB O (c.get f) c.hd n hu (KZ ru) (h u _ (I.tok _) ru)
theorem tR{m:Str}{g:Addr}{pl:Sem Bool}{Q:Value × List Value->Shared->Prop}(I:Inv X ak σ H s)(e:H a=⇑(.ins C dx fs))(c:JB X.K C)(k:Hv X.K C m g)(l:fs.lookup m=none)
  (h:Q (.ref g,[↥a]) s):wpAny (model X.prog X.w) A (getMethod ↥a m pl) Q E s:=by
 let⟨mA,O,r,_,_,_⟩:=yQ I.hok e;have hn:mA m=none:=su.none_of (by rw[← l];exact r m);exact Nb I.oB O (c.get m) k.at_ k.fn hn h
theorem zl{y:V}{u:Value}{Q:Unit->Shared->Prop}(I:Inv X ak σ H s)(e:H a=⇑(.ins C dx fs))(c:JB X.K C)(n:fO X.K C f)(hl:↑fs<1000)(ry:RelV y u)
  (h:∀ s',Inv X ak σ (aM H a (.ins C dx (dR f y fs))) s'->Q () s'):wpAny (model X.prog X.w) A (setAttr ↥a f u) Q E s:=by
 let⟨mA,O,r,wi,_,ho⟩:=yQ I.hok e;have hz:↑(fs.map (·.1))<=sizeLine:=by rw[cy,sizeLine_eq];lia
 refine QD I.oB O c.sa c.po n.YT c.hd wi hz λh' O' sb=>h _ ?_;have hd:∃ o,h'.get? dx=⇑o:=let ⟨o,P,e',_⟩:=O'.ns;⟨o,e'⟩;refine I.write (x:=a) (e:=dx) (by rw[e];exact True.intro) (.inr ho) (λb q hb z=>(sb.2 b hb).trans z) hd ?_;refine⟨by rw[aG O.ne];exact ho,?_,O.ne,O'.obj,_,O'.ns,λg=>?_,λg hg=>?_⟩
 ·have:=xT f y fs;lia
 ·show su ((dR f y fs).lookup g) (if g=f then some u else mA g);rw[xS];by_cases q:g=f
  ·rw[if_pos q,if_pos q];exact ry
  ·rw[if_neg q,if_neg q];exact r g
 ·by_cases q:g=f
  ·rw[q];exact (wc f y fs).1
  ·refine (wc f y fs).2 g (wi g λz=>hg ?_);show (if g=f then some u else mA g)=none;rw[if_neg q];exact z
theorem Inv.made(I:Inv X ak σ H s):Inv X ak σ (aM (aM H s.heap.objs.size (.own (s.heap.objs.size+1))) (s.heap.objs.size+1) (.ins C s.heap.objs.size []))
  { s with heap:=(s.heap.push emptyDict).push (instObj C s.heap.objs.size) }:=by
 have e1:(s.heap.push emptyDict).get? s.heap.objs.size=⇑emptyDict:=Heap.get?_push_size s.heap rfl
 have e2:((s.heap.push emptyDict).push (instObj C s.heap.objs.size)).get? (s.heap.objs.size+1)=⇑(instObj C s.heap.objs.size):=by
  have:=Heap.get?_push_size (s.heap.push emptyDict) (o:=instObj C s.heap.objs.size) rfl;rwa [Heap.size_push]at this
 have e3:(s.heap.push emptyDict).Ns s.heap.objs.size (λ_=>none):=⟨emptyDict,#[],_,e1,rfl,(λe he=>absurd he (by simp)),λ_=>rfl⟩;have I1:=I.laid (a:=s.heap.objs.size) (o:=.own (s.heap.objs.size+1)) (h':=s.heap.push emptyDict) (t':=s.toks) (λb u q=>Heap.get?_push_of_some _ q) (fT _) ⟨_,e1⟩;refine I1.laid (a:=s.heap.objs.size+1) (o:=.ins C s.heap.objs.size []) (t':=s.toks) (λb u q=>Heap.get?_push_of_some _ q) (Nat.le_of_eq (Heap.size_push _ _)) ?_;have ne:s.heap.objs.size≠s.heap.objs.size+1:=jM (Nat.lt_succ_self _);refine⟨by rw[aG ne,ah],Nat.zero_le _,ne,e2,λ_=>none,(Heap.Ns1.of_empty e3).at λo q=>Heap.get?_push_of_some _ q,λ_=>True.intro,λy hy=>absurd rfl hy⟩
theorem JC{prog:Program}{w:World}{env:Env}{e:Expr}{f:Str}{s:Shared}{Q:Value->Shared->Prop}(hb:attributeBase e f env (eval e env)=eval e env)
  (h:wpAny (model prog w) A (eval e env) (λo s₁=>wpAny (model prog w) A (getAttr o f true) Q E s₁) E s):wpAny (model prog w) A (eval (.Attribute e f pos) env) Q E s :=
 Attribute_any_ h (by rw[arm_eval_Attribute,hb])
end
inductive YU(K:PySem.W.Frag)(f:Str)(x:V)(H:Hp)(Q:VK):Prop
 | mk (a C dx:Addr) (fs:List (Str × V)) (v:V) (_:x=↥a) (_:H a=⇑(.ins C dx fs)) (_:JB K C) (_:fO K C f) (_:fs.lookup f=⇑v) (_:Q v H):YU K f x H Q
def YV(K:PySem.W.Frag)(ta:TE)(f:Str):TE:=fun σ H Q=>ta σ H λx H1=>YU K f x H1 Q
def adm(K:PySem.W.Frag)(ta tv:TE)(f:Str):TS:=λD σ H=>tv σ H λy H1=>ta σ H1 λx H2=>∃ a C dx fs,x=↥a/\H2 a=⇑(.ins C dx fs)/\JB K C/\fO K C f/\↑fs<1000/\
 D.nx σ (aM H2 a (.ins C dx (dR f y fs)))
def YW(X:Cx)(op:Operator)(rd:V->V->Hp->VK->Prop):Prop :=
 ∀ (ak:List (Addr × Obj)) (s:Shared) (σ:St) (H:Hp) (x y:V) (u v:Value) (Q:VK),Inv X ak σ H s->RelV x u->RelV y v->rd x y H Q->wpAny (model X.prog X.w) X.A (inplaceOp op u v) (EP X ak σ Q) X.xe s
def QE(K:PySem.W.Frag)(ta tv:TE)(rd:V->V->Hp->VK->Prop)(f:Str):TS:=λD σ H=>ta σ H λx H1=>∃ a C dx fs v,x=↥a/\H1 a=⇑(.ins C dx fs)/\JB K C/\fO K C f/\fs.lookup f=⇑v/\
 tv σ H1 λy H2=>rd v y H2 λz H3=>∃ dx' XS,H3 a=⇑(.ins C dx' XS)/\XS.length<1000/\D.nx σ (aM H3 a (.ins C dx' (dR f z XS)))
section
variable {X:Cx} {o e value:Expr} {f:Str} {pos gS K0:Pos} {ta tv:TE}
def dH(he:PE X e ta)(hb:attributeBase e f X.env (eval e X.env)=eval e X.env):PE X (.Attribute e f pos) (YV X.K ta f):=by
 intro ak s σ H Q I h;refine JC hb (cI (he ak s σ H _ I h) λu s1 CM=>?_);let⟨x,H1,I1,rx,a,C,dx,fs,v,ex,ea,c,n,l,q⟩:=CM;subst ex;obtain rfl:u=Value.ref a:=rx;exact zk I1 ea c n l λu' s2 I2 ru=>⟨v,H1,I2,ru,q⟩
def jg(ha:PE X o ta)(hv:PE X value tv)(hs:swapsWith value (⇑(.Attribute o f gS)) pos.line X.env=pure false):PS X (.Assign [.Attribute o f gS] value pos) (adm X.K ta tv f):=by
 intro ak s σ H D I h;refine plainObj_wpAny_Assign_Attribute (cI (hv ak s σ H _ I h) λu s1 h1=>?_) hs;let⟨y,H1,I1,ry,q⟩:=h1;refine cI (ha ak s1 σ H1 _ I1 q) λov s2 h2=>?_;let⟨x,H2,I2,rx,a,C,dx,fs,ex,ea,c,n,l,q2⟩:=h2;subst ex;obtain rfl:ov=Value.ref a:=rx;exact zl I2 ea c n l ry λs3 I3=>⟨σ,_,I3,q2⟩
def we{op:Operator}{rd:V->V->Hp->VK->Prop}(ha:PE X o ta)(hv:PE X value tv)(Ql:YW X op rd):PS X (.AugAssign (.Attribute o f K0) op value pos) (QE X.K ta tv rd f):=by
 intro ak s σ H D I h;refine wpAny_AugAssign_AttributeAny (cI (ha ak s σ H _ I h) λov s1 h1=>?_);let⟨x,H1,I1,rx,a,C,dx,fs,v,ex,ea,c,n,l,q⟩:=h1;subst ex;obtain rfl:ov=Value.ref a:=rx;refine zk I1 ea c n l λu s2 I2 ru=>cI (hv ak s2 σ H1 _ I2 q) λw3 s3 ⟨y,H2,I3,ry,q3⟩=>cI (Ql ak s3 σ H2 v y u w3 _ I3 ru ry q3) λw4 s4 EE=>?_;let⟨z,H3,I4,rz,dx',XS,ea',l',q4⟩:=EE;exact zl I4 ea' c n l' rz λs5 I5=>⟨σ,_,I5,q4⟩
end
section
variable {X:Cx} {ak:List (Addr × Obj)} {σ:St} {H:Hp} {s:Shared} {A:Around} {E:Value->Shared->Prop} {Q:Value->Shared->Prop} {c:Value} {b:Bool}
inductive jT(K:PySem.W.Frag)(H:Hp):V->Value->Prop where
 | fV:jT K H .fV (.type "NoneType")
 | bl (x:Bool):jT K H (.bl x) (.type "bool")
 | int (i:Int):jT K H (.int i) (.type "int")
 | str (x:Str):jT K H (.str x) (.type "str")
 | TM (x:UInt64):jT K H (.TM x) (.type "float")
 | lst {a:Addr} {xs:List V} (e:H a=⇑(.lst xs)):jT K H ↥a (.type "list")
 | Hi {a:Addr} {o:Obj} {xs:List V} (e:H a=⇑(.Hi o (.lst xs))):jT K H ↥a (.type "list")
 | tup {a:Addr} {xs:List V} (e:H a=⇑(.tup xs)):jT K H ↥a (.type "tuple")
 | dK {a:Addr} {kvs:List (eY × V)} (e:H a=⇑(.dK kvs)):jT K H ↥a (.type "dict")
 | dT {a:Addr} {kvs:List (List eY × V)} (e:H a=⇑(.dT kvs)):jT K H ↥a (.type "dict")
 | ins {a C dx:Addr} {fs:List (Str × V)} (e:H a=⇑(.ins C dx fs)) (cl:JB K C) (ha:PySem.W.findIn K ↥C "__class__"=⇑(⇑(.builtin "object.__class__")))
   (hn:PySem.W.specialIn K (.builtin "object.__class__") "__get__"=⇑(⇑(.builtin "getset_descriptor.__get__"))) (htk:PySem.W.takesIn K (.builtin "object.__class__")=⇑true)
   (hm:PySem.W.mroIn K C (.type "object")=⇑true):jT K H ↥a ↥C
theorem K5{x:V}{u t:Value}(I:Inv X ak σ H s)(rx:RelV x u)(ty:jT X.K H x t)(e:kitOne X.K t c=⇑b)(h:∀ tk,Q (.bool b) { s with toks:=tk }) :
  wpAny (model X.prog X.w) A (call (.builtin "isinstance") [u,c]) Q E s:=by
 cases ty with
 | fV=>cases (show u=Value.none from rx);exact kia_one PySem.W.kitx_none I.oB True.intro e (λz=>nomatch z) h
 | bl y=>cases (show u=Value.bool y from rx);exact kia_one PySem.W.kitx_bool I.oB True.intro e (λz=>nomatch z) h
 | int i=>let⟨t,q⟩:=(show ∃ t,u=Value.int i t from rx);cases q;exact kia_one PySem.W.kitx_int I.oB True.intro e (λz=>nomatch z) h
 | str y=>let⟨t,q⟩:=(show ∃ t,u=Value.str y t from rx);cases q;exact kia_one PySem.W.kitx_str I.oB True.intro e (λz=>nomatch z) h
 | TM y=>let⟨t,q⟩:=(show ∃ t,u=Value.float y t from rx);cases q;exact kia_one PySem.W.kitx_float I.oB True.intro e (λz=>nomatch z) h
 | @lst a xs ea =>
  cases (show u=Value.ref a from rx);let⟨_,_,n,_,h1⟩:=(show cV X.prog X.w H s.heap a (.lst xs) from I.hok a _ ea);exact kia_one kitx_list I.oB ⟨_,h1,rfl⟩ e (λz=>nomatch z) h
 | @Hi a ob xs ea =>
  cases (show u=Value.ref a from rx);let⟨_,_,_,n,_,h1⟩:=(show cV X.prog X.w H s.heap a (.Hi ob (.lst xs)) from I.hok a _ ea);exact kia_one kitx_list I.oB ⟨_,h1,rfl⟩ e (λz=>nomatch z) h
 | @tup a xs ea =>
  cases (show u=Value.ref a from rx);let⟨_,_,_,p⟩:=(show cV X.prog X.w H s.heap a (.tup xs) from I.hok a _ ea);let⟨o,h1,h2,_⟩:=p;exact kia_one PySem.W.kitx_tuple I.oB ⟨o,h1,h2⟩ e (λz=>nomatch z) h
 | @dK a kvs ea =>
  cases (show u=Value.ref a from rx);let⟨_,_,vs,_,p⟩:=(show cV X.prog X.w H s.heap a (.dK kvs) from I.hok a _ ea);let⟨o,es,ep,h1,h2,_⟩:=p;exact kia_one kitx_dict I.oB ⟨o,h1,h2.1⟩ e (λz=>nomatch z) h
 | @dT a kvs ea =>
  cases (show u=Value.ref a from rx);let⟨_,_,xs,_,o,es,ep,h1,h2,_⟩:=(show cV X.prog X.w H s.heap a (.dT kvs) from I.hok a _ ea);exact kia_one kitx_dict I.oB ⟨o,h1,h2.1⟩ e (λz=>nomatch z) h
 | @ins a C dx fs ea cl ha hn htk hm =>
  cases (show u=Value.ref a from rx);let⟨mA,O,_⟩:=yQ I.hok ea;let⟨od,J,_⟩:=O.look;exact kia_one (PySem.W.kitx_own (cl.get _) cl.hd ha hn htk hm) I.oB J e (λz=>nomatch z) h
end
end L2
namespace L2
open Spec Rows
structure gT(k:Nat)(A:Around):Prop where
 hd:A.handled=none
 dp:A.depth+3*k+5<recursionLimit
 un:A.units+16*k+200<cLine
theorem gT.mono{j k:Nat}{A:Around}(r:gT k A)(h:j<=k):gT j A:=⟨r.hd,by have:=r.dp;lia,by have:=r.un;lia⟩
theorem gT.deeper{k:Nat}{A:Around}(r:gT (k+1) A)(env:Env):gT k (A.deeper env) :=
 ⟨r.hd,by have:=r.dp;show A.depth+1+3*k+5<_;lia,by have:=r.un;show A.units+3+16*k+200<_;lia⟩
def Hw{A:Around}{C:Addr}{us:List Value}{kw:List (Str × Value)}:(A.under (.builtin "type.__call__" ⟨↥C::us,kw⟩)).depth=A.depth+1:=by
 first|rfl|simp[Around.under,Code.weight,Code.isCreation,Code.isGuard,Code.isCaller,Code.frames,Code.isFrame,guardIds]
def Hx{A:Around}{C:Addr}{us:List Value}{kw:List (Str × Value)}:(A.under (.builtin "type.__call__" ⟨↥C::us,kw⟩)).units=A.units+1:=by
 first|rfl|simp[Around.under,Code.cUnits,Code.frames,Code.isFrame]
theorem gT.make{k:Nat}{A:Around}(r:gT (k+1) A)(C:Addr)(us:List Value)(kw:List (Str × Value)):gT k (A.under (.builtin "type.__call__" ⟨↥C::us,kw⟩)) :=
 ⟨r.hd,by have:=r.dp;rw[Hw];lia,by have:=r.un;rw[Hx];lia⟩
def gT.depth{k:Nat}{A:Around}(r:gT k A):A.depth<recursionLimit:=by have:=r.dp;lia
def gT.units{k:Nat}{A:Around}(r:gT k A):A.units+64<cLine:=by have:=r.un;lia
def zm:TA:=λ_ H Q=>Q [] H
def Nf(ta:TE)(tr:TA):TA:=fun σ H Q=>ta σ H λx H1=>tr σ H1 λxs H2=>Q (x::xs) H2
section
variable {X:Cx} {e:Expr} {es:List Expr} {te:TE} {t:TA} {pos:Pos}
theorem aj:PA X [] zm:=λ_ _ _ _ H Q I h=>Calls.spliced_nil ⟨[],H,I,.nil,h⟩
def aa(ha:PE X e te)(hr:PA X es t)(hs:starEach (e::es) X.env=(false,eval e X.env)::starEach es X.env:=by rfl):PA X (e::es) (Nf te t):=by
 intro pos ak s σ H Q I h;rw[hs];show wpAny _ _ (spliced ((false,eval e X.env)::backTo pos (starEach es X.env))) _ _ s;refine Calls.spliced_cons (cI (ha ak s σ H _ I h) λu s1 EK=>?_);let⟨x,H1,I1,r1,q1⟩:=EK;exact cI (hr pos ak s1 σ H1 _ I1 q1) λus s2 ⟨xs,H2,I2,r2,q2⟩=>⟨x::xs,H2,I2,.cons r1 r2,q2⟩
def ado(t:TA):TE:=fun σ H Q=>t σ H λxs H1=>↑xs<=sizeLine/\∀ p,H1 p=none->Q ↥p (aM H1 p (.tup xs))
def K6(t:TA):TE:=fun σ H Q=>t σ H λxs H1=>↑xs<=sizeLine/\∀ p,H1 p=none->Q ↥p (aM H1 p (.lst xs))
def eL{x1}(h:PA X es t):PE X (.Tuple es x1 pos) (ado t):=by
 intro ak s σ H Q I hq;refine wpAny_Tuple_spliced (cI (h pos ak s σ H _ I hq) λus s1 ⟨xs,H1,I1,r,z,q⟩=>⟨by rw[← ↑r];exact z,?_⟩);have hf:H1 s1.heap.objs.size=none:=I1.hok.fresh (fT _);refine⟨↥s1.heap.objs.size,aM H1 s1.heap.objs.size (.tup xs),I1.laid (t':=s1.toks) (λb u e=>Heap.get?_push_of_some _ e) (fT _) ?_,rfl,q _ hf⟩;exact⟨z,us,r,⟨_,Heap.get?_push_size _ rfl,rfl,Y⟩⟩
def bO(h:PA X es t):PE X (.List es pos) (K6 t):=by
 intro ak s σ H Q I hq;refine wpAny_List_spliced (cI (h pos ak s σ H _ I hq) λus s1 ⟨xs,H1,I1,r,z,q⟩=>⟨by rw[← ↑r];exact z,?_⟩);have hf:H1 s1.heap.objs.size=none:=I1.hok.fresh (fT _);refine⟨↥s1.heap.objs.size,aM H1 s1.heap.objs.size (.lst xs),I1.laid (t':=s1.toks) (λb u e=>Heap.get?_push_of_some _ e) (fT _) ?_,rfl,q _ hf⟩;exact⟨z,us,0,r,Heap.get?_push_size _ rfl⟩
end
abbrev Sp:=List V->Hp->VK->XK->Prop
abbrev K9:=List Env->Hp->Shared->XK->Value->Shared->Prop
structure Hy(P:Program)(w:World)(K:PySem.W.Frag)(mg:Str->Option Value)(zt:Heap)(A:Around)(zn:List Env)(s:Shared)(H:Hp):Prop where
 frames:A.frames=⇑zn
 mod:Mod K mg zt
 bs:∀ b o,zt.get? b=⇑o->s.heap.get? b=⇑o/\H b=none
 Qi:zt.objs.size<=s.heap.objs.size
 qD:s.heap.FunFrames zt zn
 Qx:∀ b∈m8 zn,H b=none
 hok:oH P w H s.heap
 bare:AllBare s.gens
def CE(zn:List Env)(P:Program)(w:World)(H:Hp)(s:Shared)(Q:VK)(u:Value)(s':Shared):Prop :=
 ∃ v H',s'.os=s.os/\AllBare s'.gens/\Un (m8 zn) [] H H' s.heap s'.heap/\oH P w H' s'.heap/\RelV v u/\Q v H'
def CR(CX:K9)(zn:List Env)(P:Program)(w:World)(H:Hp)(s:Shared)(Q:VK)(E:XK)(r:Result)(s':Shared):Prop :=
 match r with
 | .ok (.ret u)=>CE zn P w H s Q u s'
 | .ok _=>False
 | .error e=>CX zn H s E e s'
structure aY(P:Program)(w:World)(K:PySem.W.Frag)(mg:Str->Option Value)(zt:Heap)(CX:K9)(k:Nat)(f:Addr)(fd:FuncData)(ps:List Str)(sp:Sp):Prop where
 len:∀ vs H Q E,sp vs H Q E->↑vs=↑ps
 run:∀ (A:Around) (zn:List Env) (s:Shared) (H:Hp) (args:Args) (us:List Value) (vs:List V) (Q:VK) (E:XK),gT k A->Hy P w K mg zt A zn s H->BindsTo s fd args (ps.zip us)->b8 vs us->sp vs H Q E->
  codeAny (model P w) A (.call ↥f args) (CR CX zn P w H s Q E) s
theorem Hy.make{P:Program}{w:World}{K:PySem.W.Frag}{mg:Str->Option Value}{zt:Heap}{A:Around}{zn:List Env}{s:Shared}{H:Hp}(e:Hy P w K mg zt A zn s H)(C:Addr)(us:List Value)(kw:List (Str × Value)) :
  Hy P w K mg zt (A.under (.builtin "type.__call__" ⟨↥C::us,kw⟩)) zn s H:=⟨by first|exact e.frames|(simpa [Around.under,Code.envs,Code.isFrame,pushEnvs] using e.frames),e.mod,e.bs,e.Qi,e.qD,e.Qx,e.hok,e.bare⟩
section
variable {X:Cx} {ak:List (Addr × Obj)} {σ:St} {H:Hp} {s s':Shared}
theorem Inv.QF(I:Inv X ak σ H s):Hy X.prog X.w X.K X.mg X.zt X.A X.stack s H :=
 ⟨I.ok.frames,I.ok.mod,I.bs,jv I.ok.Qi I.sz,I.stack,I.rJ,I.hok,I.bare⟩
def Inv.after{Q:VK}{u:Value}(I:Inv X ak σ H s)(h:CE X.stack X.prog X.w H s Q u s'):EP X ak σ Q u s':=by
 let⟨v,H',os,bare,un,hok,r,q⟩:=h;let⟨hh,g,d,t,os'⟩:=s';obtain rfl:os'=s.os:=os;exact⟨v,H',I.call (h':=hh) (g':=g) (d':=d) (t':=t) (ch:=[]) un hok bare (λb z=>absurd z (by simp)),r,q⟩
end
def EN(sp:Sp)(uP:List V)(E:XK)(t:TA):TE:=fun σ H Q=>t σ H λvs H1=>sp (vs++uP) H1 Q E
inductive Vd(C:Addr)(m:Str)(x:V)(H:Hp)(N:Prop):Prop
 | mk (a dx:Addr) (fs:List (Str × V)) (_:x=↥a) (_:H a=⇑(.ins C dx fs)) (_:fs.lookup m=none) (_:N):Vd C m x H N
def JD(C:Addr)(m:Str)(sp:Sp)(uP:List V)(E:XK)(ta:TE)(t:TA):TE:=fun σ H Q=>ta σ H λx H1=>Vd C m x H1 (t σ H1 λvs H2=>sp (x::(vs++uP)) H2 Q E)
def YX(C:Addr)(sp:Sp)(uP:List V)(E:XK)(t:TA):TE:=fun σ H Q=>t σ H λvs H1=>∀ x dx,H1 x=none->H1 dx=none->dx≠x->
 sp (.ref x::(vs++uP)) (aM (aM H1 dx (.own x)) x (.ins C dx [])) (λv H2=>v=.fV/\Q ↥x H2) E
def Binds(K:PySem.W.Frag)(fd:FuncData)(ps:List Str)(ds:List Value):Prop :=
 ∀ (s:Shared) (us:List Value),K.In s.heap->↑(us++ds)=↑ps->BindsTo s fd ⟨us,[]⟩ (ps.zip (us++ds))
theorem Binds.all{K:PySem.W.Frag}{ps:List Str}(h:∀ us:List Value,↑us=↑ps->bindArgs fd ⟨us,[]⟩=pure (ps.zip us)):Binds K fd ps []:=λs us _ hl=>by
 rw[ic]at hl ⊢;exact .of_eq (h us hl)
def jz(CX:K9)(X:Cx)(E:XK):Prop:=∀ (ak:List (Addr × Obj)) (σ:St) (H:Hp) (s:Shared) (e:Value) (s':Shared),Inv X ak σ H s->CX X.stack H s E e s'->X.xe e s'
section
variable {X:Cx} {CX:K9} {k:Nat} {f C:Addr} {fd:FuncData} {ps:List Str} {sp:Sp} {uP:List V} {ds:List Value} {E:XK} {x m:Str} {p pos jh:Pos} {e o:Expr} {es:List Expr} {ta:TE} {t:TA}
theorem CP{σ:St}{H:Hp}{s:Shared}{Q:VK}{us:List Value}{vs:List V}(F:aY X.prog X.w X.K X.mg X.zt CX k f fd ps sp)(hr:gT k X.A)(hb:Binds X.K fd ps ds)(hd:b8 uP ds)(hx:jz CX X E)
  (I:Inv X ak σ H s) (r:b8 vs us) (h:sp (vs++uP) H Q E):wpAny (model X.prog X.w) X.A (call ↥f us) (EP X ak σ Q) X.xe s:=by
 have r2:b8 (vs++uP) (us++ds):=r.append hd;have hl:↑(us++ds)=↑ps:=by rw[← ↑r2];exact F.len _ _ _ _ h
 refine wpAny_call (codeAny_mono (F.run X.A X.stack s H ⟨us,[]⟩ (us++ds) (vs++uP) Q E hr I.QF (hb s us I.oB hl) r2 h) λr s' hq=>?_)
 cases r with
 | error e=>exact hx ak σ H s e s' I hq
 | ok fl =>
  cases fl with
  | ret u=>exact I.after hq
  | next=>exact False.elim hq
  | brk=>exact False.elim hq
  | cont=>exact False.elim hq
theorem CQ(F:aY X.prog X.w X.K X.mg X.zt CX k f fd ps sp)(hr:gT k X.A)(hg:Gl X x)(hm:X.mg x=⇑↥f)(hk:PySem.W.keepIn X.K ↥f=true)(hb:Binds X.K fd ps ds)(hd:b8 uP ds)(hx:jz CX X E)
  (ha:PA X (e::es) t) (AX:(x == ("__debug__":Str))=false:=by decide) (he:starEach (e::es) X.env=(false,eval e X.env)::starEach es X.env:=by rfl) (sN:(backTo pos (starEach es X.env)).any (·.1)=false:=by rfl) :
  PE X (.Call (.Name x p) (e::es) [] pos) (EN sp uP E t):=by
 intro ak s σ H Q I h;refine wpAny_Call_Name_kw (mQ I hg hm ?_ AX);refine callWith_K (h₀:=X.zt) I.ok.mod.UP hk (cI (ha pos ak s σ H _ I h) λus s1 ⟨vs,H1,I1,r,q⟩=>⟨I1.oB,?_⟩) he sN;exact CP F hr hb hd hx I1 r q
theorem Ng(F:aY X.prog X.w X.K X.mg X.zt CX k f fd ps sp)(hr:gT k X.A)(hg:Gl X x)(hm:X.mg x=⇑↥f)(hk:PySem.W.keepIn X.K ↥f=true)(hb:Binds X.K fd ps ds)(hd:b8 uP ds)(hx:jz CX X E)
  (AX:(x == ("__debug__":Str))=false:=by decide):PE X (.Call (.Name x p) [] [] pos) (EN sp uP E zm):=by
 intro ak s σ H Q I h;refine wpAny_Call_Name_kw (mQ I hg hm ?_ AX);exact callWith_K0 I.oB hk (CP (us:=[]) F hr hb hd hx I .nil h)
theorem QG{pl:Sem Bool}(he:PE X o ta)(c:JB X.K C)(hm:Hv X.K C m f)(F:aY X.prog X.w X.K X.mg X.zt CX k f fd ps sp)(hr:gT k X.A)(hb:Binds X.K fd ps ds)(hd:b8 uP ds)(hx:jz CX X E)(ha:PA X (e::es) t)
  (uM:starEach (e::es) X.env=(false,eval e X.env)::starEach es X.env:=by rfl) (sN:(backTo pos (starEach es X.env)).any (·.1)=false:=by rfl)
  (ht:eval (.Call (.Attribute o m jh) (e::es) [] pos) X.env=(do
   let ov ← eval o X.env
   standAt jh.atName
   let (f,first) ← holding [ov] (getMethod ov m pl)
   callWith pos f first (backTo pos (starEach (e::es) X.env)) (backToKw pos (keywordEach [] X.env))):=by rfl) :
  PE X (.Call (.Attribute o m jh) (e::es) [] pos) (JD C m sp uP E ta t):=by
 intro ak s σ H Q I h;refine PySem.W.methodCall_KW (pl:=pl) (cI (he ak s σ H _ I h) λu s1 ⟨x,H1,I1,rx,a,dx,fs,ex,ea,l,q⟩=>?_) ht;subst ex;obtain rfl:u=Value.ref a:=rx;refine tR I1 ea c hm l ?_
 refine callWith_K (first:=[↥a]) (h₀:=X.zt) I.ok.mod.UP hm.kp (cI (ha pos ak s1 σ H1 _ I1 q) λus s2 ⟨vs,H2,I2,r,q2⟩=>⟨I2.oB,?_⟩) uM sN
 exact CP (us:=↥a::us) (vs:=↥a::vs) F hr hb hd hx I2 (.cons rfl r) q2
theorem Nh{pl:Sem Bool}(he:PE X o ta)(c:JB X.K C)(hm:Hv X.K C m f)(F:aY X.prog X.w X.K X.mg X.zt CX k f fd ps sp)(hr:gT k X.A)(hb:Binds X.K fd ps ds)(hd:b8 uP ds)(hx:jz CX X E)
  (ht:eval (.Call (.Attribute o m jh) [] [] pos) X.env=(do
   let ov ← eval o X.env
   standAt jh.atName
   let (f,first) ← holding [ov] (getMethod ov m pl)
   callWith pos f first (backTo pos (starEach [] X.env)) (backToKw pos (keywordEach [] X.env))):=by rfl) :
  PE X (.Call (.Attribute o m jh) [] [] pos) (JD C m sp uP E ta zm):=by
 intro ak s σ H Q I h;refine PySem.W.methodCall_KW (pl:=pl) (cI (he ak s σ H _ I h) λu s1 ⟨x,H1,I1,rx,a,dx,fs,ex,ea,l,q⟩=>?_) ht;subst ex;obtain rfl:u=Value.ref a:=rx;refine tR I1 ea c hm l ?_
 exact callWith_K0 (first:=[↥a]) I1.oB hm.kp (CP (us:=[↥a]) (vs:=[↥a]) F hr hb hd hx I1 (.cons rfl .nil) q)
structure Mk(K:PySem.W.Frag)(C f:Addr):Prop where
 makes:makesIn K C=true
 init:PySem.W.findIn K ↥C "__init__"=⇑(⇑↥f)
 fn:isFn K ↥f=true
 kp:PySem.W.keepIn K ↥C=true
theorem Ni{σ:St}{H:Hp}{s:Shared}{Q:VK}{us:List Value}{vs:List V}(M:Mk X.K C f)(F:aY X.prog X.w X.K X.mg X.zt CX k f fd ps sp)(hr:gT (k+1) X.A)(hb:Binds X.K fd ps ds)(hd:b8 uP ds)
  (hx:jz CX X E) (I:Inv X ak σ H s) (r:b8 vs us)
  (h:∀ x dx,H x=none->H dx=none->dx≠x->sp (.ref x::(vs++uP)) (aM (aM H dx (.own x)) x (.ins C dx [])) (λv H2=>v=.fV/\Q ↥x H2) E) :
  wpAny (model X.prog X.w) X.A (call ↥C us) (EP X ak σ Q) X.xe s:=by
 have hq:=h (s.heap.objs.size+1) s.heap.objs.size (I.hok.fresh (Nat.le_succ _)) (I.hok.fresh (fT _)) (jM (Nat.lt_succ_self _));have I2:=Inv.made (C:=C) I;have r2:b8 (V.ref (s.heap.objs.size+1)::(vs++uP)) (Value.ref (s.heap.objs.size+1)::(us++ds)):=.cons rfl (r.append hd)
 have hl:↑(Value.ref (s.heap.objs.size+1)::us++ds)=↑ps:=by
  have e:=↑r2;rw[F.len _ _ _ _ hq]at e;exact e.symm
 refine wpAny_call (Nc (f:=f) I.oB M.makes M.init (beq_iff_eq.mp M.fn) (codeAny_mono (F.run _ X.stack _ _ ⟨Value.ref (s.heap.objs.size+1)::us,[]⟩ (Value.ref (s.heap.objs.size+1)::(us++ds)) _ _ E (hr.make C us []) (I2.QF.make C us []) (hb _ (Value.ref (s.heap.objs.size+1)::us) I2.oB hl) r2 hq) λr s' Nj=>?_))
 cases r with
 | error e=>exact hx ak σ _ _ e s' I2 Nj
 | ok fl =>
  cases fl with
  | ret u =>
   let⟨v,H',I3,rv,ev,q3⟩:=I2.after Nj;subst ev;exact⟨rv,⟨V.ref (s.heap.objs.size+1),H',I3,rfl,q3⟩⟩
  | next=>exact False.elim Nj
  | brk=>exact False.elim Nj
  | cont=>exact False.elim Nj
theorem nQ(M:Mk X.K C f)(F:aY X.prog X.w X.K X.mg X.zt CX k f fd ps sp)(hr:gT (k+1) X.A)(hg:Gl X x)(hm:X.mg x=⇑↥C)(hb:Binds X.K fd ps ds)(hd:b8 uP ds)(hx:jz CX X E)
  (AX:(x == ("__debug__":Str))=false:=by decide):PE X (.Call (.Name x p) [] [] pos) (YX C sp uP E zm):=by
 intro ak s σ H Q I h;refine wpAny_Call_Name_kw (mQ I hg hm ?_ AX);exact callWith_K0 I.oB M.kp (Ni (us:=[]) M F hr hb hd hx I .nil h)
end
structure aH(N P:List Str)(sc:Scope):Prop where
 kind:sc.kind=.function
 co:sc.isCoroutine=false
 gen:sc.isGenerator=false
 nd:N.Nodup
 pre:N.take ↑P=P
 par:∀ x∈P,sc.names.lookup x=⇑.local\/sc.names.lookup x=⇑.cell
 Ve:∀ y∈sc.names,y.2≠.free
theorem BG{kindOf:Str->Option NameKind}{x:Str}:∀ {binds:List (Str × Value)} {m:Str->Option Value},(∀ v,(x,v)∉binds)->bindL kindOf binds m x=m x
 | [],_,_=>rfl
 | (n,v)::r,m,h=>by
  unfold bindL;rw[BG λw hw=>h w (oE _ hw)];split
  ·have:x≠n:=by rintro rfl;exact h v tL
   simp[this]
  ·rfl
theorem BH{kindOf:Str->Option NameKind}{x:Str}:∀ {binds:List (Str × Value)} {m:Str->Option Value},(∀ v,(x,v)∉binds)->bindC kindOf binds m x=m x
 | [],_,_=>rfl
 | (n,v)::r,m,h=>by
  unfold bindC;rw[BH λw hw=>h w (oE _ hw)];split
  ·rfl
  ·have:x≠n:=by rintro rfl;exact h v tL
   simp[this]
theorem BI{kindOf:Str->Option NameKind}{x:Str}{v:Value}:∀ {P:List Str} {vs:List Value} {i:Nat} {m:Str->Option Value},P.Nodup->P[i]?=⇑x->vs[i]?=⇑v->kindOf x=⇑.local->
  bindL kindOf (P.zip vs) m x=⇑v
 | [],_,_,_,_,h,_,_=>by simp at h
 | _::_,[],_,_,_,_,h,_=>by simp at h
 | p::P,w::vs,0,m,nd,h1,h2,hk=>by
  simp at h1 h2;subst h1;subst h2;show bindL kindOf ((p,w)::P.zip vs) m p=_;unfold bindL;rw[BG λv hv=>(List.nodup_cons.mp nd).1 (List.of_mem_zip hv).1,if_pos hk];simp
 | p::P,w::vs,i+1,m,nd,h1,h2,hk=>by
  show bindL kindOf ((p,w)::P.zip vs) m x=_;unfold bindL;exact BI (i:=i) (List.nodup_cons.mp nd).2 (by simpa using h1) (by simpa using h2) hk
theorem BJ{kindOf:Str->Option NameKind}{x:Str}{v:Value}:∀ {P:List Str} {vs:List Value} {i:Nat} {m:Str->Option Value},P.Nodup->P[i]?=⇑x->vs[i]?=⇑v->kindOf x≠some .local->
  bindC kindOf (P.zip vs) m x=⇑v
 | [],_,_,_,_,h,_,_=>by simp at h
 | _::_,[],_,_,_,_,h,_=>by simp at h
 | p::P,w::vs,0,m,nd,h1,h2,hk=>by
  simp at h1 h2;subst h1;subst h2;show bindC kindOf ((p,w)::P.zip vs) m p=_;unfold bindC;rw[BH λv hv=>(List.nodup_cons.mp nd).1 (List.of_mem_zip hv).1,if_neg hk];simp
 | p::P,w::vs,i+1,m,nd,h1,h2,hk=>by
  show bindC kindOf ((p,w)::P.zip vs) m x=_;unfold bindC;exact BJ (i:=i) (List.nodup_cons.mp nd).2 (by simpa using h1) (by simpa using h2) hk
def start(N:List Str)(vs:List V):St:=vs.map some++List.replicate (↑N-↑vs) none
def EO(CX:K9)(P:Program)(w:World)(K:PySem.W.Frag)(mg:Str->Option Value)(zt:Heap)(N:List Str)(cE:Str)(scope:Scope)(f:Addr)(cd:Value)(A:Around)(zn:List Env)(s:Shared)(H:Hp)(E:XK):Cx where
 prog:=P
 w:=w
 K:=K
 mg:=mg
 zt:=zt
 A:=A.deeper (envOfC cE scope s.heap.objs.size f cd)
 N:=N
 s₀:=s
 H₀:=H
 env:=envOfC cE scope s.heap.objs.size f cd
 zn:=zn
 stack:=envOfC cE scope s.heap.objs.size f cd::zn
 ex:=[]
 calm:=true
 fn:=λ_=>true
 pn:=[]
 xe:=λe s'=>wpAny (model P w) (A.deeper (envOfC cE scope s.heap.objs.size f cd)) (leaving (envOfC cE scope s.heap.objs.size f cd) e) (λ_ s''=>CX zn H s E e s'') (λe' s''=>CX zn H s E e' s'') s'
def ER{sc:Scope}{n:Nat}{x:Str}(h:sc.names.lookup x=⇑.cell):∃ c,(cellsFrom n sc.names []).lookup x=⇑c:=by
 have q:=cellsFrom_some sc.names n [] (.inl h);exact Option.isSome_iff_exists.mp q
theorem La{CX:K9}{P:Program}{w:World}{K:PySem.W.Frag}{mg:Str->Option Value}{zt:Heap}{N ps:List Str}{cE:Str}{scope:Scope}{f:Addr}{cd:Value}{A:Around}{zn:List Env}{s s1:Shared}{H:Hp}{E:XK}{us:List Value}{vs:List V}
  (S:aH N ps scope) (hd:A.handled=none) (e0:Hy P w K mg zt A zn s H) (hl:↑vs=↑ps) (r:b8 vs us)
  (x:InCallC s s.heap.objs.size (bindL (envOfC cE scope s.heap.objs.size f cd).kindOf (ps.zip us) λ_=>none) (cellsFrom (s.heap.objs.size+1) scope.names []) (bindC (envOfC cE scope s.heap.objs.size f cd).kindOf (ps.zip us) λ_=>none) s1) :
  Inv (EO CX P w K mg zt N cE scope f cd A zn s H E) [] (start N vs) H s1:=by
 have sN:↑ps<=↑N:=by have:=congrArg List.length S.pre;rw[gO]at this;lia
 let⟨h1,tk,rfl,hk⟩:=x.done;have YY:∀ b:Addr,b∉(EO CX P w K mg zt N cE scope f cd A zn s H E).ex:=λb z=>absurd (show b∈([]:List Addr) from z) (by simp)
 exists ⟨e0.mod,S.kind,V,fT _,λy z c h1 h2=>?_,λy hy=>?_,λy c _ h=>?_,λ_=>hd,Around.frames_deeper e0.frames,.inr ⟨V⟩,λb z=>absurd z (YY b),e0.bs,e0.Qi,λb _ _=>YY b,λb z=>absurd z (YY b),e0.qD,e0.Qx⟩,
  rfl,e0.bare,Un.kept hk,⟨_,x.toInCall.ns,λi y v h1 h2 h3=>?_⟩,λy c h=>⟨_,x.cell y c h⟩,e0.hok.fresh (fT _),λy c h=>?_,λp hp=>absurd (show p∈([]:List (Addr × Obj)) from hp) (by simp),e0.hok.kept hk
 ·exact name_of_addr x.apart (PySem.mem_of_lookup h1) (PySem.mem_of_lookup h2)
 ·have hy:scope.names.lookup y=⇑.cell\/scope.names.lookup y=⇑.free:=hy;rcases hy with hy|hy
  ·exact ER hy
  ·exact absurd rfl (S.Ve _ (PySem.mem_of_lookup hy))
 ·exact gQ (x.above y c (PySem.mem_of_lookup h))
 ·have hi:i<↑vs:=by
   unfold start at h2;by_cases hi:i<↑vs
   ·exact hi
   ·rw[List.getElem?_append_right (by simpa using hi)]at h2;rw[List.getElem?_replicate]at h2
    split at h2 <;> cases h2
  have ha:vs[i]?=⇑v:=by
   unfold start at h2;rw[AU (by simpa using hi),gf]at h2
   cases e:vs[i]? with
   | none=>rw[e]at h2;cases h2
   | some a=>rw[e]at h2;cases h2;rfl
  let⟨u,hu,rv⟩:=r.get ha
  have hp:ps[i]?=⇑y:=by
   rw[← S.pre,List.getElem?_take_of_lt ∅];exact h1
  have ndP:ps.Nodup:=by rw[← S.pre];exact S.nd.sublist (List.take_sublist _ _)
  exists u,rv;rcases S.par y (oA hp) with k|k
  ·exact .inl ⟨k,BI ndP hp hu k⟩
  ·let⟨c,e⟩:=ER (n:=s.heap.objs.size+1) k;refine .inr ⟨.inl k,c,e,?_⟩;have q:=x.cell y c e;rw[BJ ndP hp hu (by show scope.names.lookup y≠_;rw[k];decide)]at q;exact q
 ·exact e0.hok.fresh (gQ (x.above y c (PySem.mem_of_lookup h)))
 ·unfold start;show _=↑N;rw[cX,cy,yl];lia
theorem TY{CX:K9}{P:Program}{w:World}{K:PySem.W.Frag}{mg:Str->Option Value}{zt:Heap}{k:Nat}{f:Addr}{name cE:Str}{params:Arguments}{scope:Scope}{dV kV wg pm cJ ct oc:Value}{an od:Option Addr}
  {Lb:Array (Option Value)} {N ps:List Str} {sp:Sp} (lk:K.lookup f=some ⟨oc,od,.func (fnOf name cE params body scope dV kV wg pm an cJ ct),Lb⟩) (KP:codeIn K cJ cE=true) (S:aH N ps scope)
  (len:∀ vs H Q E,sp vs H Q E->↑vs=↑ps)
  (uQ:∀ (A:Around) (zn:List Env) (s:Shared) (H:Hp) (vs:List V) (Q:VK) (E:XK),gT k (A.deeper (envOfC cE scope s.heap.objs.size f cJ))->sp vs H Q E->
   ∃ t,CK (EO CX P w K mg zt N cE scope f cJ A zn s H E) body t/\t { nx:=λ_ H'=>Q .fV H',rt:=Q } (start N vs) H) :
  aY P w K mg zt CX (k+1) f (fnOf name cE params body scope dV kV wg pm an cJ ct) ps sp:=by
 refine⟨len,λA zn s H args us vs Q E hr e0 hb r Hz=>?_⟩;have hl:=len _ _ _ _ Hz;have KX:K.In s.heap:=e0.mod.UP.keeps λb o e=>(e0.bs b o e).1;have lim:s.heap.NoLimit:=e0.mod.nolimit.keeps λb o e=>(e0.bs b o e).1
 have hkind:∀ y∈ps.zip us,scope.names.lookup y.1=⇑.local\/(scope.names.lookup y.1=⇑.cell/\((cellsFrom (s.heap.objs.size+1) scope.names []).lookup y.1).isSome=true):=λ⟨n,v⟩ hy=>by
  rcases S.par n (List.of_mem_zip hy).1 with q|q
  ·exact .inl q
  ·exact .inr ⟨q,cellsFrom_some _ _ _ (.inl q)⟩
 refine codeAny_call_function hr.depth (KX _ _ lk) rfl S.co S.gen rfl (PySem.W.codeRec_of KX KP) (hb _ _ _ _ ?_);refine wpAny_newFunctionEnv_cells S.kind hkind λenv he s1 x=>?_;subst he;refine⟨lim.keeps x.toInCall.keep,codeAny_func ?_⟩;let⟨t,ht,hq⟩:=uQ A zn s H vs Q E (hr.deeper _) Hz;have I:Inv (EO CX P w K mg zt N cE scope f cJ A zn s H E) [] (start N vs) H s1:=La S hr.hd e0 hl r x;refine wpAny_mono (ht [] s1 (start N vs) H _ I hq) (λfl s' hs=>?_) λe s' hs=>hs;have nO:∀ {σ':St} {H':Hp} {v:V} {u:Value},Inv (EO CX P w K mg zt N cE scope f cJ A zn s H E) [] σ' H' s'->RelV v u->Q v H'->CE zn P w H s Q u s' := λ{σ' H' v u} J rv q=>⟨v,H',J.os,J.bare,J.zt,J.hok,rv,q⟩
 cases fl with
 | ret u =>
  let⟨v,σ',H',J,rv,q⟩:=hs;exact nO J rv q
 | next =>
  let⟨σ',H',J,q⟩:=hs;exact nO (v:=V.fV) (u:=Value.none) J rfl q
 | brk =>
  let⟨_,_,_,q⟩:=hs;exact False.elim q
 | cont =>
  let⟨_,_,_,q⟩:=hs;exact False.elim q
end L2
namespace L2
open Spec Rows
section
variable {X:Cx} {x:Str} {p pos:Pos} {e:Expr} {es:List Expr} {t:TA} {id T:String} {r:List V->Hp->VK->Prop}
def tCB(r:List V->Hp->VK->Prop)(t:TA):TE:=fun σ H Q=>t σ H λvs H1=>r vs H1 Q
theorem cu(hc:j8 X (.builtin id) r)(hg:Gl X x)(hm:X.mg x=none)(hv:bootBuiltins x=⇑(.builtin id))(ha:PA X (e::es) t)(hn:x≠"__name__":=by decide)(AX:(x == ("__debug__":Str))=false:=by decide)
  (he:starEach (e::es) X.env=(false,eval e X.env)::starEach es X.env:=by rfl) (sN:(backTo pos (starEach es X.env)).any (·.1)=false:=by rfl):PE X (.Call (.Name x p) (e::es) [] pos) (tCB r t):=by
 intro ak s σ H Q I h;refine wpAny_Call_Name_kw (vZ I hg hm hv ?_ hn AX);exact PyProof.Rows.callWith_builtin1 (cI (ha pos ak s σ H _ I h) λus s1 ⟨vs,H1,I1,r1,q1⟩=>hc ak s1 σ H1 vs us Q I1 r1 q1) he sN
theorem eT(hc:j8 X (.type T) r)(hg:Gl X x)(hm:X.mg x=none)(hv:bootBuiltins x=⇑(.type T))(ha:PA X (e::es) t)(hn:x≠"__name__":=by decide)(AX:(x == ("__debug__":Str))=false:=by decide)
  (he:starEach (e::es) X.env=(false,eval e X.env)::starEach es X.env:=by rfl) (sN:(backTo pos (starEach es X.env)).any (·.1)=false:=by rfl):PE X (.Call (.Name x p) (e::es) [] pos) (tCB r t):=by
 intro ak s σ H Q I h;refine wpAny_Call_Name_kw (vZ I hg hm hv ?_ hn AX);exact PyProof.Rows.callWith_type1 (cI (ha pos ak s σ H _ I h) λus s1 ⟨vs,H1,I1,r1,q1⟩=>hc ak s1 σ H1 vs us Q I1 r1 q1) he sN
end
end L2
namespace HT
open Rows
section
variable {prog:Program} {w:World} {A:Around} {E:Value->Shared->Prop} {s:Shared}
def i7(n d:Nat):Option Int->Nat
 | none=>d
 | some v=>if v<0 then (v+(n:Int)).toNat else min v.toNat n
def JE(n d k:Nat):i7 n d (⇑(k:Int))=min k n:=by
 show (if (k:Int)<0 then ((k:Int)+(n:Int)).toNat else min (k:Int).toNat n)=min k n;rw[if_neg ∅,Int.toNat_natCast]
def Vf(n d:Nat)(hd:d<=n)(o:Option Int):i7 n d o<=n:=by
 cases o with
 | none=>exact hd
 | some v =>
  show (if v<0 then (v+(n:Int)).toNat else min v.toNat n)<=n;by_cases hv:v<0
  ·rw[if_pos hv];lia
  ·rw[if_neg hv];exact Nat.min_le_right _ _
def JF(v:Int)(n d:Nat):(if v<0 then max (v+(n:Int)) 0 else min v (n:Int))=((i7 n d (⇑v):Nat):Int):=by
 show (if v<0 then max (v+(n:Int)) 0 else min v (n:Int))=(((if v<0 then (v+(n:Int)).toNat else min v.toNat n):Nat):Int);by_cases hv:v<0
 ·simp only[if_pos hv];lia
 ·simp only[if_neg hv];lia
def HF(lo hi:Option Int)(n:Nat):Builtin.Slice.sliceAdjust lo hi 1 (n:Int)=(((i7 n 0 lo:Nat):Int),((i7 n n hi:Nat):Int)):=by
 have h1:¬ ((1:Int)<0):=by lia
 unfold Builtin.Slice.sliceAdjust;simp only[h1,if_false];refine Prod.ext ?_ ?_
 ·cases lo with
  | none=>rfl
  | some v=>exact JF v n 0
 ·cases hi with
  | none=>rfl
  | some v=>exact JF v n n
def HG(i j:Nat):Builtin.Slice.slicePlaces (i:Int) (j:Int) 1=j-i:=by
 unfold Builtin.Slice.slicePlaces;have h1:(1:Int) > 0:=by lia
 simp only[h1,if_true,Int.ediv_one]
 split <;> lia
def zo{v:Value}{o:Option Int}{Q:Option Int->Shared->Prop}(p:IsPart v o)(h:Q o s):wpAny (model prog w) A (Builtin.Slice.slicePartIndex v) Q E s:=by
 cases p with
 | none=>exact slicePart_none h
 | int i t=>exact slicePart_int h
theorem wj{sl:Addr}{vl vu:Value}{lo hi:Option Int}{n:Nat}{Q:Int × Int × Nat->Shared->Prop}(hs:s.heap.IsSliceOf sl vl vu .none)(pl:IsPart vl lo)(pu:IsPart vu hi)
  (h:Q (((i7 n 0 lo:Nat):Int),1,i7 n n hi-i7 n 0 lo) s):wpAny (model prog w) A (Builtin.Slice.sliceApplied ↥sl (pure (n:Int))) Q E s:=by
 let⟨os,hos,QH,JG⟩:=id hs;unfold Builtin.Slice.sliceApplied Builtin.Slice.sliceFields;refine wpAny_bind (wpAny_bind (wpAny_field hos JG (x:=vl) rfl (wpAny_bind (wpAny_field hos JG (x:=vu) rfl (wpAny_bind (wpAny_field hos JG (x:=.none) rfl (wpAny_pure ?_)))))));refine wpAny_bind (slicePart_none ?_);show wpAny _ _ (if ((1:Int) == 0)=true then _ else _) _ _ s;rw[if_neg (by decide)];refine wpAny_bind (zo pl (wpAny_bind (zo pu (wpAny_bind (wpAny_pure ?_)))));show wpAny _ _ (match Builtin.Slice.sliceAdjust lo hi 1 (n:Int) with|(lo,hi)=>pure (lo,(1:Int),Builtin.Slice.slicePlaces lo hi 1)) _ _ s;rw[HF lo hi n];show wpAny _ _ (pure (((i7 n 0 lo:Nat):Int),(1:Int),Builtin.Slice.slicePlaces ((i7 n 0 lo:Nat):Int) ((i7 n n hi:Nat):Int) 1)) _ _ s;rw[HG];exact wpAny_pure h
def Nk(xs:Array Value)(i k:Nat):((List.range k).filterMap λ(m:Nat)=>xs[((i:Int)+(m:Int)*1).toNat]?).toArray=((xs.toList.drop i).take k).toArray:=by
 have e:(λ(m:Nat)=>xs[((i:Int)+(m:Int)*1).toNat]?)=λm=>xs[i+m]?:=by
  funext m;have:((i:Int)+(m:Int)*1).toNat=i+m:=by lia
  rw[this]
 rw[e];have:=pick_run xs i k;rw[List.filterMap_map]at this;have e2:((λx=>xs[x]?) ∘ λx=>i+x)=λm=>xs[i+m]?:=rfl;rw[e2]at this;rw[this]
theorem uR{t sl:Addr}{items:Array Value}{vl vu:Value}{lo hi:Option Int}{Q:Value->Shared->Prop}(ht:IsTup s.heap t items)(hs:s.heap.IsSliceOf sl vl vu .none)(pl:IsPart vl lo)(pu:IsPart vu hi)
  (hw:¬ (i7 items.size 0 lo=0/\i7 items.size items.size hi=items.size))
  (h:Q ↥s.heap.objs.size { s with heap:=s.heap.push { cls:=.type "tuple",data:=.seq ((items.toList.drop (i7 items.size 0 lo)).take (i7 items.size items.size hi-i7 items.size 0 lo)).toArray } })
  (hsz:items.size<=sizeLine):wpAny (model prog w) A (getItem ↥t ↥sl) Q E s:=by
 have JH:sizeOk (.seq ((items.toList.drop (i7 items.size 0 lo)).take (i7 items.size items.size hi-i7 items.size 0 lo)).toArray):=by
  show ((items.toList.drop (i7 items.size 0 lo)).take (i7 items.size items.size hi-i7 items.size 0 lo)).toArray.size<=sizeLine;rw[gZ,gO,List.length_drop,Array.length_toList];lia
 have hj:i7 items.size items.size hi<=items.size:=Vf _ _ (fT _) hi;let⟨os,hos,QH,JG⟩:=id hs;have hTs:s.TypeIs ↥sl "slice":=⟨os,hos,QH⟩;unfold getItem
 try with_reducible refine wpAny_holding ?_
 first|refine wpAny_bind (wpAny_pure ?_)|skip
 refine wpAny_bind (wpAny_sequenceKey ht.typeIs (by decide) ?_);refine wpAny_bind (wpAny_callSpecial?_slot (name:=Str.ofString "__getitem__") ht.typeIs PyProof.Rows.slot_tuple_getitem (wpAny_call_entry PyProof.Rows.slot_tuple_getitem ht.typeIs entry_tuple_getitem ?_ (args_tuple_getitem _ _)));show wpAny _ _ (Builtin.Tuple.tupleItemsOf ↥t >>= _) _ _ s;refine wpAny_bind (tupleItemsOf_ ht ?_);refine wpAny_bind (wpAny_typeOf hTs ?_);rw[if_pos (by decide)];refine wpAny_bind (wj hs pl pu ?_)
 have Nl:¬ ((((i7 items.size 0 lo:Nat):Int) == 0&&(1:Int) == 1&&(i7 items.size items.size hi-i7 items.size 0 lo) == items.size)=true):=by
  intro q;rw[Bool.and_eq_true,Bool.and_eq_true]at q;have q1:((i7 items.size 0 lo:Nat):Int)=0:=eq_of_beq q.1.1;have q2:i7 items.size items.size hi-i7 items.size 0 lo=items.size:=eq_of_beq q.2;exact hw ⟨Q,Q⟩
 show wpAny _ _ (if (((i7 items.size 0 lo:Nat):Int) == 0&&(1:Int) == 1&&(i7 items.size items.size hi-i7 items.size 0 lo) == items.size)=true then _ else _) _ _ s;rw[if_neg Nl,Nk]
 first
  | exact wpAny_bind (m:=Builtin.Tuple.tupleExact _) (wpAny_newObj_type (wpAny_pure ⟨Y,wpAny_pure h⟩) JH)
  | exact wpAny_bind (m:=Builtin.Tuple.tupleExact _) (wpAny_newObj_type (wpAny_bind (wpAny_pure (wpAny_pure ⟨Y,wpAny_pure h⟩))) JH)
  | exact wpAny_bind (wpAny_bind (m:=Builtin.Tuple.tupleExact _) (wpAny_newObj_type (wpAny_pure (wpAny_pure ⟨Y,wpAny_pure h⟩)) JH))
  | exact wpAny_bind (wpAny_bind (m:=Builtin.Tuple.tupleExact _) (wpAny_newObj_type (wpAny_pure ⟨Y,wpAny_pure h⟩) JH))
end
end HT
namespace L2
open Spec Rows
abbrev TO:=St->Hp->(Option Int->Hp->Prop)->Prop
def PO(X:Cx)(e:Option Expr)(t:TO):Prop :=
 ∀ (ak:List (Addr × Obj)) (s:Shared) (σ:St) (H:Hp) (Q:Option Int->Hp->Prop),Inv X ak σ H s->t σ H Q->
  wpAny (model X.prog X.w) X.A (evalPart e X.env) (λu s'=>∃ o H',Inv X ak σ H' s'/\IsPart u o/\Q o H') X.xe s
def QI:TO:=λ_ H Q=>Q none H
def YZ(t:TE):TO:=fun σ H Q=>t σ H λx H1=>isI x H1 Q
def intsAre_of{ns:List Int}:∀ {us:List Value},b8 (ns.map V.int) us->IntsAre us ns:=by
 induction ns with
 | nil=>intro us r;rw[List.map_nil]at r;cases r;exact .nil
 | cons n ns ih =>
  intro us r;rw[jy]at r
  cases r with
  | cons r1 r2 =>
   let⟨t,e⟩:=r1;subst e;exact .cons n t (ih r2)
section
variable {X:Cx} {e:Expr} {te:TE} {lo hi:Option Expr} {tl th:TO} {pos p2:Pos}
def lu:PO X none QI:=by
 intro ak s σ H Q I h;rw[evalPart_none];exact wpAny_pure ⟨none,H,I,.none,h⟩
def jA(h:PE X e te):PO X (⇑e) (YZ te):=by
 intro ak s σ H Q I hw;rw[evalPart_some];refine cI (h ak s σ H _ I hw) λu s1 EF=>?_;let⟨x,H1,I1,r1,q1⟩:=EF;let⟨i,rfl,q⟩:=q1;let⟨t,rfl⟩:=r1;exact⟨⇑i,H1,I1,.int i t,q⟩
def SlR(X:Cx)(r:V->Option Int->Option Int->Hp->VK->Prop):Prop :=
 ∀ (ak:List (Addr × Obj)) (s:Shared) (σ:St) (H:Hp) (x:V) (v vl vu:Value) (lo hi:Option Int) (sl:Addr) (Q:VK),Inv X ak σ H s->RelV x v->s.heap.IsSliceOf sl vl vu .none->IsPart vl lo->IsPart vu hi->r x lo hi H Q->
  ∃ T id,typeLookup (.type T) "__getitem__"=pure (⇑(.builtin id))/\s.TypeIs v T/\wpAny (model X.prog X.w) X.A (getItem v ↥sl) (EP X ak σ Q) X.xe s
def tSl(r:V->Option Int->Option Int->Hp->VK->Prop)(te:TE)(tl th:TO):TE:=fun σ H Q=>te σ H λx H1=>tl σ H1 λl H2=>th σ H2 λu H3=>r x l u H3 Q
def jb{r:V->Option Int->Option Int->Hp->VK->Prop}(hr:SlR X r)(he:PE X e te)(hl:PO X lo tl)(hu:PO X hi th):PE X (.Subscript e (.Slice lo hi none p2) pos) (tSl r te tl th):=by
 intro ak s σ H Q I h;refine Subscript_ (cI (he ak s σ H _ I h) λv s1 AW=>?_);let⟨x,H1,I1,r1,q1⟩:=AW;refine wpAny_Slice (cI (hl ak s1 σ H1 _ I1 q1) λvl s2 ⟨l,H2,I2,pl,q2⟩=>cI (hu ak s2 σ H2 _ I2 q2) λvu s3 ED=>?_);let⟨u,H3,I3,pu,q3⟩:=ED;rw[evalPart_none];refine wpAny_pure ?_;have I4:Inv X ak σ H3 { s3 with heap:=s3.heap.push { cls:=.type "slice",data:=.fields #[vl,vu,.none] } }:=I3.kept (t':=s3.toks) λb ob q=>Heap.get?_push_of_some _ q;let⟨T,id,hT,ht,hg⟩:=hr ak { s3 with heap:=s3.heap.push { cls:=.type "slice",data:=.fields #[vl,vu,.none] } } σ H3 x v vl vu l u s3.heap.objs.size Q I4 r1 (Heap.IsSliceOf.new ..) pl pu q3;show wpAny (model X.prog X.w) X.A (subscriptTail e (.Slice lo hi none p2) v ↥s3.heap.objs.size) (EP X ak σ Q) X.xe { s3 with heap:=s3.heap.push { cls:=.type "slice",data:=.fields #[vl,vu,.none] } };exact tail_any (ops:=[↥s3.heap.objs.size,v]) ht hT hg (by with_unfolding_all rfl)
def jN(xs:List V)(lo hi:Option Int):List V:=(xs.drop (HT.i7 ↑xs 0 lo)).take (HT.i7 ↑xs ↑xs hi-HT.i7 ↑xs 0 lo)
def xU(xs:List V)(lo hi:Option Int):↑(jN xs lo hi)<=↑xs:=by
 unfold jN;rw[gO,List.length_drop];lia
def adu(K:PySem.W.Frag):V->Option Int->Option Int->Hp->VK->Prop:=λx lo hi H Q=>∃ a xs,x=↥a/\gV K H a xs/\
 ¬ (HT.i7 ↑xs 0 lo=0/\HT.i7 ↑xs ↑xs hi=↑xs)/\∀ p,H p=none->Q ↥p (aM H p (.tup (jN xs lo hi)))
def Vg:SlR X (adu X.K):=by
 intro ak s σ H x v vl vu lo hi sl Q I rx hs pl pu h;let⟨a,xs,rfl,hx,hw,q⟩:=h;cases rx;let⟨aP,r,ht,hz⟩:=I.tuple hx;have cZ:aP.toArray.size=↑xs:=by rw[gZ];exact r.length.symm
 exists "tuple",_,PyProof.Rows.slot_tuple_getitem.lookup,ht.typeIs;refine HT.uR ht hs pl pu (by rw[cZ];exact hw) ?_ (by rw[cZ];exact hz);rw[cZ];refine⟨↥s.heap.objs.size,_,I.laid (t':=s.toks) (o:=.tup (jN xs lo hi)) (λb ob q=>Heap.get?_push_of_some _ q) (fT _) ?_,rfl,q _ (I.hok.fresh (fT _))⟩;exact⟨Nat.le_trans (xU xs lo hi) hz,_,(r.drop (HT.i7 ↑xs 0 lo)).take (HT.i7 ↑xs ↑xs hi-HT.i7 ↑xs 0 lo),IsTup.new _ _⟩
end
end L2
namespace L2
open Spec Rows
def JI(n:Nat)(i:Int):Option Nat:=if 0<=i then (if i<n then some i.toNat else none) else if -(n:Int)<=i then some (i+n).toNat else none
def qF{α:Type}(xs:List α)(i:Int):Option α:=(JI ↑xs i).bind λj=>xs[j]?
def JJ{n:Nat}{i:Int}{j:Nat}(h:JI n i=⇑j):seqIndex? i n=⇑j/\j<n/\-(n:Int)<=i/\i<n:=by
 unfold JI at h;by_cases h0:0<=i
 ·rw[if_pos h0]at h;by_cases h1:i<n
  ·rw[if_pos h1]at h;have e:i.toNat=j:=qC h;exact⟨by rw[seqIndex_of h0 h1,e],Q,Q,h1⟩
  ·rw[if_neg h1]at h;cases h
 ·rw[if_neg h0]at h;by_cases h1:-(n:Int)<=i
  ·rw[if_pos h1]at h;have e:(i+n).toNat=j:=qC h;exact⟨by rw[seqIndex_neg ∅ h1,e],Q,h1,Q⟩
  ·rw[if_neg h1]at h;cases h
def CU{α:Type}{xs:List α}{i:Int}{v:α}(h:qF xs i=⇑v):∃ j,seqIndex? i ↑xs=⇑j/\xs[j]?=⇑v/\j<↑xs/\-(↑xs:Int)<=i/\i<↑xs:=by
 unfold qF at h
 cases e:JI ↑xs i with
 | none=>rw[e]at h;cases h
 | some j =>
  rw[e]at h;let⟨h1,h2,h3,h4⟩:=JJ e;exact⟨j,h1,h,h2,h3,h4⟩
def dF{α:Type}{xs:List α}{j:Nat}{v:α}(h:xs[j]?=⇑v):qF xs (j:Int)=⇑v:=by
 have hj:j<↑xs:=(List.getElem?_eq_some_iff.mp h).1
 have e:JI ↑xs (j:Int)=⇑j:=by
  unfold JI;rw[if_pos ∅,if_pos ∅];simp
 unfold qF;rw[e];exact h
def Nm{α:Type}(xs:List α)(v:α):qF (xs++[v]) (-1)=⇑v:=by
 have hl:↑(xs++[v])=↑xs+1:=by simp
 have e:JI ↑(xs++[v]) (-1)=some ↑xs:=by
  unfold JI;rw[hl,if_neg (by decide),if_pos ∅];congr 1;lia
 unfold qF;rw[e];show (xs++[v])[↑xs]?=⇑v;simp
def JK(b:Expr):Prop:=∀ o i,subscripted b false o i=operate [o,i] (getItem o i)
def XU(X:Cx)(r:R2):Prop :=
 ∀ (value sO:Expr) (ak:List (Addr × Obj)) (s:Shared) (σ:St) (H:Hp) (x y:V) (v u:Value) (Q:VK),Inv X ak σ H s->RelV x v->RelV y u->r x y H Q->
  subscripted sO false v u=operate [v,u] (getItem v u)->wpAny (model X.prog X.w) X.A (subscriptTail value sO v u) (EP X ak σ Q) X.xe s
def MtR(X:Cx)(id:String)(r:V->List V->Hp->VK->Prop):Prop :=
 ∀ (ak:List (Addr × Obj)) (s:Shared) (σ:St) (H:Hp) (x:V) (xs:List V) (v:Value) (us:List Value) (Q:VK),Inv X ak σ H s->RelV x v->b8 xs us->r x xs H Q->
  wpAny (model X.prog X.w) X.A (call (.builtin id) (v::us)) (EP X ak σ Q) X.xe s
section
variable {X:Cx} {a b:Expr} {ta tb:TE} {pos:Pos}
def Y0{r:R2}(hr:XU X r)(ha:PE X a ta)(hb:PE X b tb)(hs:JK b):PE X (.Subscript a b pos) (YO r ta tb):=by
 intro ak s σ H Q I h;exact Subscript_ (U9 ha hb I h λv u s2 x y H2 I2 rx ry q=>hr a b ak s2 σ H2 x y v u Q I2 rx ry q (hs _ _))
inductive adv(K:PySem.W.Frag)(x y:V)(H:Hp)(Q:VK):Prop
 | mk (p:Addr) (xs:List V) (i:Int) (v:V) (_:x=↥p) (_:y=.int i) (_:bC K H p xs) (_:qF xs i=⇑v) (_:Q v H)
inductive Y3(K:PySem.W.Frag)(x y:V)(H:Hp)(Q:VK):Prop
 | mk (p:Addr) (xs:List V) (i:Int) (v:V) (_:x=↥p) (_:y=.int i) (_:gV K H p xs) (_:qF xs i=⇑v) (_:Q v H)
def adw:R2:=λx y H Q=>∃ z i c,x=.str z/\y=.int i/\↑z<=sizeLine/\qF z.cps.toList i=⇑c/\Q (.str ⟨#[c]⟩) H
def bw:XU X (adv X.K):=by
 intro value sO ak s σ H x y v u Q I rx ry h hs;let⟨p,xs,i,z,rfl,rfl,hq,he,q⟩:=h;cases rx;let⟨t,rfl⟩:=ry;let⟨aP,r,pl,hz⟩:=I.list hq;let⟨j,h1,h2,h3,h4,h5⟩:=CU he;let⟨w,ew,jU⟩:=r.get h2;have hl:=↑r;have hn:=tQ;have nO:EP X ak σ Q w s:=⟨z,H,I,jU,q⟩;by_cases h0:0<=i
 ·have hj:i.toNat=j:=by
   rw[seqIndex_of h0 h5]at h1;exact qC h1
  exact item_listR pl.isList h0 ∅ (by rw[hj];simpa using ew) nO hs
 ·have hj:(i+(aP.toArray.size:Int)).toNat=j:=by
   rw[seqIndex_neg ∅ h4]at h1;rw[gZ,← hl];exact qC h1
  exact subscriptTail_builtinR (x:=w) pl.isList.typeIs slot_list_getitem.lookup
   (wpAny_getItem_list_neg (Q:=λr s'=>r=w/\EP X ak σ Q r s') pl.isList ∅ (by rw[gZ] <;> lia) ∅ (by rw[hj];simpa using ew) ⟨rfl,nO⟩) hs
def dh:XU X (Y3 X.K):=by
 intro value sO ak s σ H x y v u Q I rx ry h hs;let⟨p,xs,i,z,rfl,rfl,hq,he,q⟩:=h;cases rx;let⟨t,rfl⟩:=ry;let⟨aP,r,pl,hz⟩:=I.tuple hq;let⟨j,h1,h2,h3,h4,h5⟩:=CU he;let⟨w,ew,jU⟩:=r.get h2;have hl:=↑r;have hn:=tQ;have nO:EP X ak σ Q w s:=⟨z,H,I,jU,q⟩;exact subscriptTail_builtinR (x:=w) pl.typeIs slot_tuple_getitem.lookup (getItem_tuple (j:=j) (Q:=λr s'=>r=w/\EP X ak σ Q r s') pl ∅ ∅ (by rw[gZ,← hl];exact h1) (by simpa using ew) ⟨rfl,nO⟩) hs
def Nn:XU X adw:=by
 intro value sO ak s σ H x y v u Q I rx ry h hs;let⟨z,i,c,rfl,rfl,hz,he,q⟩:=h;let⟨t,rfl⟩:=rx;let⟨t',rfl⟩:=ry;let⟨j,h1,h2,h3,h4,h5⟩:=CU he;have hl:↑z.cps.toList=↑z:=by simp[Str.length]
 rw[hl]at h1 h4 h5;have hn:=tQ
 exact tail_any (typeIs_str s z t) slot_str_getitem.lookup (getItem_str (c:=c) (by
  have e1:decide (i < -(2^63:Int))=false:=decide_eq_false ∅;have e2:decide (i>=2^63)=false:=decide_eq_false ∅
  rw[e1,e2,Bool.or_false]) (by rw[h1];simpa using h2) ⟨.str ⟨#[c]⟩,H,I.tok _,⟨Y⟩,q⟩) hs
def HH(aP:List Value)(n j:Nat)(u:Value):Obj.mapSeq (·.setIfInBounds j u) { cls:=.type "list",data:=.seq aP.toArray n }={ cls:=.type "list",data:=.seq (aP.set j u).toArray n }:=by
 simp[Obj.mapSeq]
theorem Inv.lst{ak:List (Addr × Obj)}{σ:St}{H:Hp}{s:Shared}{p:Addr}{xs:List V}(I:Inv X ak σ H s)(h:H p=⇑(.lst xs)) :
  ∃ (aP:List Value) (n:Nat),b8 xs aP/\s.heap.get? p=some { cls:=.type "list",data:=.seq aP.toArray n }/\↑xs<=sizeLine:=by
 let⟨z,aP,n,r,e⟩:=I.hok p _ h;exact⟨aP,n,r,e,z⟩
theorem Inv.Vh{σ:St}{H:Hp}{s:Shared}{p:Addr}{xs ys:List V}{aP its':List Value}{n n':Nat}{f:Obj->Obj}(I:Inv X ak σ H s)(h:H p=⇑(.lst xs))
  (ho:s.heap.get? p=some { cls:=.type "list",data:=.seq aP.toArray n }) (hf:f { cls:=.type "list",data:=.seq aP.toArray n }={ cls:=.type "list",data:=.seq its'.toArray n' }) (r:b8 ys its') (hz:↑ys<=sizeLine) (t:Nat) :
  Inv X ak σ (aM H p (.lst ys)) { s with heap:=s.heap.update p f,toks:=t }:=by
 have e:(s.heap.update p f).get? p=some { cls:=.type "list",data:=.seq its'.toArray n' }:=by
  rw[Heap.get?_update_self f ho (by rw[hf] <;> rfl),hf]
 refine I.write (x:=p) (e:=p) (by rw[h];trivial) (.inl rfl) (λb u hb q=>(Heap.get?_update_other _ _ (Ne.symm hb)).trans q) ⟨_,e⟩ ?_;exact⟨hz,its',n',r,e⟩
inductive Y4(o i v:V)(H:Hp)(Q:Hp->Prop):Prop
 | mk (p:Addr) (xs:List V) (k:Int) (j:Nat) (_:o=↥p) (_:i=.int k) (_:H p=⇑(.lst xs)) (_:JI ↑xs k=⇑j) (_:Q (aM H p (.lst (xs.set j v))))
def jB:YI X Y4:=by
 intro ak s σ H o i v ov iv u Q I ro ri rv h;let⟨p,xs,k,j,rfl,rfl,hp,hj,q⟩:=h;cases ro;let⟨t,rfl⟩:=ri;let⟨aP,n,r,ho,hz⟩:=I.lst hp;let⟨h1,h2,h3,h4⟩:=JJ hj;have hl:=↑r;have hn:=tQ;have I':Inv X ak σ (aM H p (.lst (xs.set j v))) { s with heap:=s.heap.update p (Obj.mapSeq (·.setIfInBounds j u)) } := I.Vh hp ho (HH aP n j u) (r.set rv j) (by rw[List.length_set];exact hz) s.toks;by_cases h0:0<=k
 ·have hk:k.toNat=j:=by
   rw[seqIndex_of h0 h4]at h1;exact qC h1
  exact PySem.W.ki_setAt ho h0 ∅ (by rw[gZ,← hl];exact h4) (by rw[hk];exact⟨_,I',q⟩)
 ·have hk:(k+(aP.toArray.size:Int)).toNat=j:=by
   rw[seqIndex_neg ∅ h3]at h1;rw[gZ,← hl];exact qC h1
  exact PySem.W.ki_setBack ho ∅ (by rw[gZ,← hl];exact h3) ∅ (by rw[hk];exact⟨_,I',q⟩)
def CV(lo hi:Option Int)(n:Nat):(sliceBounds lo hi none n).1=((HT.i7 n 0 lo:Nat):Int)/\(sliceBounds lo hi none n).2.1=((HT.i7 n n hi:Nat):Int)/\(sliceBounds lo hi none n).2.2=1:=by
 refine⟨?_,?_,rfl⟩
 ·cases lo with
  | none=>simp[sliceBounds,HT.i7]
  | some i =>
   simp only[sliceBounds,HT.i7,Option.getD_none,show (1:Int) > 0 by decide,if_true];by_cases h:i<0
   ·simp only[h,if_true] <;> lia
   ·simp only[h,if_false] <;> lia
 ·cases hi with
  | none=>simp[sliceBounds,HT.i7]
  | some i =>
   simp only[sliceBounds,HT.i7,Option.getD_none,show (1:Int) > 0 by decide,if_true];by_cases h:i<0
   ·simp only[h,if_true] <;> lia
   ·simp only[h,if_false] <;> lia
def AY(aP:List Value)(lo hi:Option Int):slicePick aP.toArray lo hi none=((aP.drop (HT.i7 ↑aP 0 lo)).take (HT.i7 ↑aP ↑aP hi-HT.i7 ↑aP 0 lo)).toArray:=by
 let⟨h1,h2,h3⟩:=CV lo hi aP.toArray.size;unfold slicePick;rw[h1,h2,h3]
 simp only[sliceRange_one,pick_run,gZ] <;> rfl
inductive Y5(K:PySem.W.Frag)(x:V)(lo hi:Option Int)(H:Hp)(Q:VK):Prop
 | mk (a:Addr) (xs:List V) (_:x=↥a) (_:bC K H a xs) (_:∀ p,H p=none->Q ↥p (aM H p (.lst (jN xs lo hi)))):Y5 K x lo hi H Q
def lC:SlR X (Y5 X.K):=by
 intro ak s σ H x v vl vu lo hi sl Q I rx hs pl pu h;let⟨a,xs,rfl,hx,q⟩:=h;cases rx;let⟨aP,r,ht,hz⟩:=I.list hx;have cZ:=↑r;exists "list",_,slot_list_getitem.lookup,ht.isList.typeIs
 refine wpAny_getItem_list_slice ht.isList hs pl pu .none (by simp) ?_ (by rw[gZ] <;> lia)
 rw[AY,← cZ];refine⟨↥s.heap.objs.size,_,I.laid (t':=s.toks) (o:=.lst (jN xs lo hi)) (λb ob q=>Heap.get?_push_of_some _ q) (fT _) ?_,rfl,q _ (I.hok.fresh (fT _))⟩;exact⟨Nat.le_trans (xU xs lo hi) hz,_,0,(r.drop (HT.i7 ↑xs 0 lo)).take (HT.i7 ↑xs ↑xs hi-HT.i7 ↑xs 0 lo),Heap.get?_push_size _ rfl⟩
def uS:V->Bool
 | .fV=>true
 | .bl _=>true
 | .int _=>true
 | .str _=>true
 | _=>false
def TZ:V->V->Bool
 | .fV,.fV=>true
 | .bl a,.bl b=>a == b
 | .bl a,.int b=>(if a then 1 else 0) == b
 | .int a,.bl b=>a == (if b then 1 else 0)
 | .int a,.int b=>a == b
 | .str a,.str b=>a == b
 | _,_=>false
def Vi{A:Around}{s:Shared}{y x:V}{u v:Value}(ry:RelV y u)(rx:RelV x v)(fy:uS y=true)(fx:uS x=true):SeqAt.EqAt A s u v (TZ y x):=by
 cases y with
 | fV =>
  cases ry
  cases x with
  | fV=>cases rx;exact SeqAt.EqAt.same _
  | bl b=>cases rx;exact SeqAt.EqAt.none_bool b
  | int b=>let⟨t,rfl⟩:=rx;exact SeqAt.EqAt.none_int b t
  | str b=>let⟨t,rfl⟩:=rx;exact SeqAt.EqAt.none_str b t
  | _=>exact absurd (show false=true from fx) gE
 | bl a =>
  cases ry
  cases x with
  | fV=>cases rx;exact SeqAt.EqAt.bool_none a
  | bl b=>cases rx;exact SeqAt.EqAt.bool_bool a b
  | int b=>let⟨t,rfl⟩:=rx;exact SeqAt.EqAt.bool_int a b t
  | str b=>let⟨t,rfl⟩:=rx;exact SeqAt.EqAt.bool_str a b t
  | _=>exact absurd (show false=true from fx) gE
 | int a =>
  let⟨t',rfl⟩:=ry
  cases x with
  | fV=>cases rx;exact SeqAt.EqAt.int_none a t'
  | bl b=>cases rx;exact SeqAt.EqAt.int_bool a t' b
  | int b=>let⟨t,rfl⟩:=rx;exact SeqAt.EqAt.int_int a t' b t
  | str b=>let⟨t,rfl⟩:=rx;exact SeqAt.EqAt.int_str a t' b t
  | _=>exact absurd (show false=true from fx) gE
 | str a =>
  let⟨t',rfl⟩:=ry
  cases x with
  | fV=>cases rx;exact SeqAt.EqAt.str_none a t'
  | bl b=>cases rx;exact SeqAt.EqAt.str_bool a t' b
  | int b=>let⟨t,rfl⟩:=rx;exact SeqAt.EqAt.str_int a t' b t
  | str b=>let⟨t,rfl⟩:=rx;exact SeqAt.EqAt.str_str a t' b t
  | _=>exact absurd (show false=true from fx) gE
 | _=>exact absurd (show false=true from fy) gE
def HJ(x:V)(u:Value):Bool:=match u with
 | .none=>TZ .fV x
 | .bool b=>TZ (.bl b) x
 | .int i _=>TZ (.int i) x
 | .str z _=>TZ (.str z) x
 | _=>false
def Np{x y:V}{u:Value}(r:RelV y u)(f:uS y=true):HJ x u=TZ y x:=by
 cases y with
 | fV=>cases r;rfl
 | bl b=>cases r;rfl
 | int i=>let⟨t,rfl⟩:=r;rfl
 | str z=>let⟨t,rfl⟩:=r;rfl
 | _=>exact absurd (show false=true from f) gE
theorem uT{x:V}:∀ {xs:List V} {us:List Value},b8 xs us->xs.all uS=true->us.any (HJ x)=xs.any λy=>TZ y x
 | _,_,.nil,_=>rfl
 | y::xs,u::us,.cons r t,f=>by
  rw[List.all_cons,Bool.and_eq_true]at f;rw[List.any_cons,List.any_cons,Np r f.1,uT t f.2]
theorem qG{A:Around}{s:Shared}{x:V}{v:Value}(rx:RelV x v)(fx:uS x=true):∀ {xs:List V} {us:List Value},b8 xs us->xs.all uS=true->∀ u∈us,SeqAt.EqAt A s u v (HJ x u)
 | _,_,.nil,_=>λu hu=>by cases hu
 | y::xs,u::us,.cons r t,f=>λu' hu=>by
  rw[List.all_cons,Bool.and_eq_true]at f;rcases List.mem_cons.mp hu with rfl|hu
  ·rw[Np r f.1];exact Vi r rx f.1 fx
  ·exact qG rx fx t f.2 u' hu
def inV(x:V)(xs:List V):Bool:=xs.any λy=>TZ y x
inductive Vj(K:PySem.W.Frag)(xs:List V)(H:Hp)(Q:VK):Prop
 | mk (p:Addr) (ys:List V) (_:xs=[↥p]) (_:bC K H p ys\/gV K H p ys) (_:Q (.int ↑ys) H):Vj K xs H Q
inductive Y6(K:PySem.W.Frag)(xs:List V)(H:Hp)(Q:VK):Prop
 | mk (p:Addr) (ys:List V) (_:xs=[↥p]) (_:bC K H p ys\/gV K H p ys) (_:∀ l,H l=none->Q ↥l (aM H l (.lst ys)))
def rIn(K:PySem.W.Frag)(neg:Bool):R2:=λx y H Q=>∃ p xs,y=↥p/\(bC K H p xs\/gV K H p xs)/\uS x=true/\xs.all uS=true/\Q (.bl (if neg then !inV x xs else inV x xs)) H
def wm:uJ X (compareOp .In) (rIn X.K false):=by
 intro ak s σ H x y v u Q I rx ry h;let⟨p,xs,rfl,hq,fx,fs,q⟩:=h;cases ry;rcases hq with hq|hq
 ·let⟨aP,r,pl,hz⟩:=I.list hq;refine SeqAt.in_listAt (HJ x) pl.isList (λw hw=>qG rx fx r fs w (by simpa using hw)) ⟨.bl _,H,I,rfl,?_⟩;rw[show aP.toArray.any (HJ x)=aP.any (HJ x) by simp,uT r fs];exact q
 ·let⟨aP,r,pl,hz⟩:=I.tuple hq;refine SeqAt.in_tupleAt (HJ x) pl (λw hw=>qG rx fx r fs w (by simpa using hw)) ⟨.bl _,H,I,rfl,?_⟩;rw[show aP.toArray.any (HJ x)=aP.any (HJ x) by simp,uT r fs];exact q
def uU:uJ X (compareOp .NotIn) (rIn X.K true):=by
 intro ak s σ H x y v u Q I rx ry h;let⟨p,xs,rfl,hq,fx,fs,q⟩:=h;cases ry;rcases hq with hq|hq
 ·let⟨aP,r,pl,hz⟩:=I.list hq;refine SeqAt.notIn_listAt (HJ x) pl.isList (λw hw=>qG rx fx r fs w (by simpa using hw)) ⟨.bl _,H,I,rfl,?_⟩;rw[show aP.toArray.any (HJ x)=aP.any (HJ x) by simp,uT r fs];exact q
 ·let⟨aP,r,pl,hz⟩:=I.tuple hq;refine SeqAt.notIn_tupleAt (HJ x) pl (λw hw=>qG rx fx r fs w (by simpa using hw)) ⟨.bl _,H,I,rfl,?_⟩;rw[show aP.toArray.any (HJ x)=aP.any (HJ x) by simp,uT r fs];exact q
def CY:j8 X (.builtin "len") (Vj X.K):=by
 intro ak s σ H xs us Q I r h;let⟨p,ys,rfl,hq,q⟩:=h;let⟨u,rfl,rx⟩:=vals1 r;cases rx;have hn:=tQ;rcases hq with hq|hq
 ·let⟨aP,r',pl,hz⟩:=I.list hq;have cZ:=↑r'
  exact Calls.call_len_list pl.isList (by simp only[gZ] <;> lia) ⟨.int ↑ys,H,I.tok _,⟨s.toks+1,by rw[gZ,cZ]⟩,q⟩
 ·let⟨aP,r',pl,hz⟩:=I.tuple hq;have cZ:=↑r'
  exact len_tuple pl (by simp only[gZ] <;> lia) ⟨.int ↑ys,H,I.tok _,⟨s.toks+1,by rw[gZ,cZ]⟩,q⟩
def uV:j8 X (.builtin "len") (λxs H Q=>∃ z,xs=[.str z]/\↑z<=sizeLine/\Q (.int ↑z) H):=by
 intro ak s σ H xs us Q I r h;let⟨z,rfl,hz,q⟩:=h;let⟨u,rfl,t,rfl⟩:=vals1 r;have hn:=tQ;exact len_str ∅ ⟨.int ↑z,H,I.tok _,⟨Y⟩,q⟩
def fY:j8 X (.type "list") (Y6 X.K):=by
 intro ak s σ H xs us Q I r h;let⟨p,ys,rfl,hq,q⟩:=h;let⟨u,rfl,rx⟩:=vals1 r;cases rx
 have nO:∀ (aP:List Value),b8 ys aP->↑ys<=sizeLine->∀ (h':Heap) (c':Nat),(∀ b o',s.heap.get? b=⇑o'->h'.get? b=⇑o')->
   h'.get? s.heap.objs.size=some { cls:=.type "list",dict:=none,data:=.seq aP.toArray c',slots:=#[] }->EP X ak σ Q ↥s.heap.objs.size { s with heap:=h' }:=λaP r' hz h' c' kp e =>
  ⟨↥s.heap.objs.size,_,I.laid (t':=s.toks) kp (fT _) (show cV X.prog X.w _ h' _ (.lst ys) from ⟨hz,aP,c',r',e⟩),rfl,q _ (I.hok.fresh (fT _))⟩
 rcases hq with hq|hq
 ·let⟨aP,r',pl,hz⟩:=I.list hq;have cZ:=↑r';let⟨o,ho,hc,n,hd⟩:=pl.isList
  exact call_list_seq p (.inl rfl) ho hc hd (λh' c' kp e=>nO aP r' hz h' c' kp e) (by simp only[gZ] <;> lia)
 ·let⟨aP,r',pl,hz⟩:=I.tuple hq;have cZ:=↑r';let⟨o,ho,hc,n,hd⟩:=pl
  exact call_list_seq p (.inr rfl) ho hc hd (λh' c' kp e=>nO aP r' hz h' c' kp e) (by simp only[gZ] <;> lia)
def tyV(K:PySem.W.Frag)(T:String)(x:V)(H:Hp):Prop:=match x with
 | .str _=>T="str"
 | .int _=>T="int"
 | .ref p=>(T="list"/\∃ xs,bC K H p xs)\/(T="tuple"/\∃ o,K.lookup p=⇑o/\o.cls=.type "tuple"/\o.dict=none)\/
   (T="dict"/\((∃ kvs,H p=⇑(.dK kvs))\/∃ kvs,H p=⇑(.dT kvs)))\/(T="set"/\∃ S n,H p=⇑(.set S n))
 | _=>False
theorem Nq{σ:St}{H:Hp}{s:Shared}{T:String}{x:V}{v:Value}(I:Inv X ak σ H s)(r:RelV x v)(ty:tyV X.K T x H) :
  s.TypeIs v T/\∀ a,v=↥a->∃ ob,s.heap.get? a=⇑ob/\ob.dict=none:=by
 cases x with
 | str z =>
  let⟨t,rfl⟩:=r;cases (show T="str" from ty);exact⟨typeIs_str s z t,λ_ e=>nomatch e⟩
 | int i =>
  let⟨t,rfl⟩:=r;cases (show T="int" from ty);exact⟨typeIs_int s i t,λ_ e=>nomatch e⟩
 | ref p =>
  cases r;rcases ty with ⟨rfl,xs,hq⟩|⟨rfl,o,hk,hc,hd⟩|⟨rfl,hk⟩|⟨rfl,S,n,hk⟩
  ·let⟨aP,_,pl,_⟩:=I.list hq;refine⟨pl.isList.typeIs,λa e=>?_⟩;cases e;let⟨o,n,e,c,hd,_⟩:=pl;exact⟨o,e,hd⟩
  ·refine⟨⟨o,I.oB p o hk,hc⟩,λa e=>?_⟩;cases e;exact⟨o,I.oB _ o hk,hd⟩
  ·have z:∃ o,s.heap.get? p=⇑o/\o.ExactDict:=by
    rcases hk with ⟨kvs,hk⟩|⟨kvs,hk⟩
    ·let⟨_,_,_,_,o,_,_,e,ex,_⟩:=I.hok p _ hk;exact⟨o,e,ex⟩
    ·let⟨_,_,_,_,o,_,_,e,ex,_⟩:=I.hok p _ hk;exact⟨o,e,ex⟩
   let⟨o,e,ex⟩:=z;refine⟨⟨o,e,ex.1⟩,λa e2=>?_⟩;cases e2;exact⟨o,e,ex.2.1⟩
  ·let⟨o,_,_,_,e,ex,_⟩:=I.hok p _ hk;refine⟨⟨o,e,ex.1⟩,λa e2=>?_⟩;cases e2;exact⟨o,e,ex.2.1⟩
 | _=>exact False.elim ty
def ady(K:PySem.W.Frag)(T:String)(r:V->List V->Hp->VK->Prop)(to:TE):TE:=fun σ H Q=>to σ H λx H1=>tyV K T x H1/\r x [] H1 Q
def tBM(K:PySem.W.Frag)(T:String)(r:V->List V->Hp->VK->Prop)(to:TE)(t:TA):TE:=fun σ H Q=>to σ H λx H1=>tyV K T x H1/\t σ H1 λxs H2=>r x xs H2 Q
variable {o e:Expr} {es:List Expr} {to:TE} {t:TA} {name:Str} {jh iU:Pos} {T id:String} {r:V->List V->Hp->VK->Prop}
theorem Nr(pa:PlainAttrs T)(slot:Slot T name id)(hty:typeOf (.builtin id)=pure (.type "method_descriptor"))(hm:MtR X id r)(ho:PE X o to)
  (Nt:attributeBase o name X.env (eval o X.env)=eval o X.env:=by rfl) (Nu:(jh.endLine == iU.line)=true:=by rfl):PE X (.Call (.Attribute o name jh) [] [] iU) (ady X.K T r to):=by
 intro ak s σ H Q I h;refine wpAny_Call_method0_late Nt Nu (cI (ho ak s σ H _ I h) λv s1 CM=>?_);let⟨x,H1,I1,r1,ty,q1⟩:=CM;let⟨h1,h2⟩:=Nq I1 r1 ty;exact⟨T,id,pa,slot,hty,h1,h2,Calls.callWith_builtin rfl (PySem.evalArgs_none (hm ak s1 σ H1 x [] v [] Q I1 r1 .nil q1))⟩
theorem dI(pa:PlainAttrs T)(slot:Slot T name id)(hty:typeOf (.builtin id)=pure (.type "method_descriptor"))(hm:MtR X id r)(ho:PE X o to)(ha:PA X (e::es) t)
  (Nt:attributeBase o name X.env (eval o X.env)=eval o X.env:=by rfl)
  (adA:((backTo iU (starEach (e::es) X.env)).all (λx=>!x.1)&&(backToKw iU (keywordEach [] X.env)).all (λx=>x.1.isSome)
   && decide (↑(e::es)+↑([]:List Keyword)+(if ([]:List Keyword).isEmpty then 0 else 1)<30))=true:=by rfl)
  (Nu:(jh.endLine == iU.line)=true:=by rfl) (hs:starEach (e::es) X.env=(false,eval e X.env)::starEach es X.env:=by rfl) (Vk:(backTo iU (starEach es X.env)).any (·.1)=false:=by rfl) :
  PE X (.Call (.Attribute o name jh) (e::es) [] iU) (tBM X.K T r to t):=by
 intro ak s σ H Q I h;refine wpAny_Call_method_late Nt adA Nu rfl (cI (ho ak s σ H _ I h) λv s1 CN=>?_);let⟨x,H1,I1,r1,ty,q1⟩:=CN;let⟨h1,h2⟩:=Nq I1 r1 ty;exists T,id,pa,slot,hty,h1,h2;have hA:=ha iU ak s1 σ H1 _ I1 q1;rw[hs]at hA ⊢
 refine Calls.callWith_builtin (by show (false || (backTo iU (starEach es X.env)).any (·.1))=false;rw[Vk] <;> rfl) (Calls.evalArgs_plain ?_)
 exact cI hA λus s2 ⟨vs,H2,I2,r2,q2⟩=>hm ak s2 σ H2 x vs v us Q I2 r1 r2 q2
end
end L2
namespace L2
open Spec Rows
def XW(X:Cx)(id:String)(r:V->List V->Hp->VK->Prop):Prop :=
 ∀ (ak:List (Addr × Obj)) (s:Shared) (σ:St) (H:Hp) (x:V) (xs:List V) (v:Value) (us:List Value) (Q:VK),Inv X ak σ H s->RelV x v->b8 xs us->r x xs H Q->
  wpAny (model X.prog X.w) X.A (call (.builtin id) (v::us)) (EP X ak σ Q) X.xe s
def b8.one{x:V}{us:List Value}(h:b8 [x] us):∃ u,us=[u]/\RelV x u:=by
 cases h with
 | cons r t=>cases t;exact⟨Y,r⟩
def b8.two{x y:V}{us:List Value}(h:b8 [x,y] us):∃ u v,us=[u,v]/\RelV x u/\RelV y v:=by
 cases h with
 | cons r t =>
  let⟨_,rfl,q⟩:=b8.one t;exact⟨P,rfl,r,q⟩
theorem b8.zero:∀ {us:List Value},b8 [] us->us=[]
 | _,.nil=>rfl
def b8.dropLast{xs:List V}{us:List Value}(h:b8 xs us):b8 xs.dropLast us.dropLast:=by
 induction h with
 | nil=>exact .nil
 | cons r t ih =>
  cases t with
  | nil=>exact .nil
  | cons q t'=>exact .cons r ih
theorem b8.eraseIdx:∀ {xs:List V} {us:List Value} (i:Nat),b8 xs us->b8 (xs.eraseIdx i) (us.eraseIdx i)
 | _,_,_,.nil=>.nil
 | _,_,0,.cons _ t=>t
 | _,_,i+1,.cons r t=>.cons r (b8.eraseIdx i t)
theorem b8.rep{xs:List V}{us:List Value}(h:b8 xs us):∀ k:Nat,b8 (List.replicate k xs).flatten (List.replicate k us).flatten
 | 0=>.nil
 | k+1=>by
  rw[List.replicate_succ,List.replicate_succ,List.flatten_cons,List.flatten_cons];exact b8.append h (b8.rep h k)
def HK{α:Type}(l:List α):l.eraseIdx (↑l-1)=l.dropLast:=by
 induction l with
 | nil=>rfl
 | cons a r ih =>
  cases r with
  | nil=>rfl
  | cons b r =>
   have e:↑(a::b::r)-1=(↑(b::r)-1)+1:=by
    have h1:↑(a::b::r)=↑r+2:=rfl;have h2:↑(b::r)=↑r+1:=rfl;lia
   rw[e,List.eraseIdx_cons_succ,ih]
   all_goals rfl
theorem BK{α:Type}:∀ (l:List α) (i:Nat),↑(l.eraseIdx i)<=↑l
 | [],_=>fT _
 | _::_,0=>Nat.le_succ _
 | _::r,i+1=>Nat.succ_le_succ (BK r i)
theorem foldl_rep(aP:List Value):∀ (k:Nat) (acc:List Value),
  List.foldl (λx1 x2=>x1++x2) acc.toArray (List.replicate k aP.toArray)=(acc++(List.replicate k aP).flatten).toArray
 | 0,acc=>by simp
 | k+1,acc=>by
  have e:acc.toArray++aP.toArray=(acc++aP).toArray:=by simp
  have e2:(acc++aP)++(List.replicate k aP).flatten=acc++(List.replicate (k+1) aP).flatten:=by
   rw[List.replicate_succ,List.flatten_cons,mL]
  rw[← e2,← foldl_rep aP k (acc++aP),← e,List.replicate_succ,m7]
section
variable {X:Cx} {ak:List (Addr × Obj)} {σ:St} {H:Hp} {s:Shared} {l b:Addr} {xs ys zs:List V}
theorem Inv.Nv{aP its':List Value}{n:Nat}{f:Array Value->Array Value}{t':Nat}(I:Inv X ak σ H s)(hH:H l=⇑(.lst xs))
  (e:s.heap.get? l=some { cls:=.type "list",data:=.seq aP.toArray n }) (hf:f aP.toArray=its'.toArray) (hv:b8 ys its') (hz:↑ys<=sizeLine) :
  Inv X ak σ (aM H l (.lst ys)) { s with heap:=s.heap.update l (Obj.mapSeq f),toks:=t' }:=by
 have q:=PySem.IsL.update e f;rw[hf]at q;refine I.write (x:=l) (e:=l) (by rw[hH];exact trivial) (.inl rfl) (λb' u hb hu=>(Heap.get?_update_other s.heap (Obj.mapSeq f) (Ne.symm hb)).trans hu) ⟨_,q⟩ ?_;exact⟨hz,its',_,hv,q⟩
theorem Inv.QJ{aP:List Value}{t':Nat}(I:Inv X ak σ H s)(hv:b8 ys aP)(hz:↑ys<=sizeLine) :
  Inv X ak σ (aM H s.heap.objs.size (.lst ys)) { s with heap:=s.heap.push { cls:=.type "list",data:=.seq aP.toArray },toks:=t' } :=
 I.laid (λ_ _ q=>Heap.get?_push_of_some _ q) (fT _) ⟨hz,aP,0,hv,Heap.get?_push_size _ rfl⟩
theorem Inv.fresh(I:Inv X ak σ H s):H s.heap.objs.size=none:=I.hok.fresh (fT _)
def Inv.AZ(I:Inv X ak σ H s)(hH:H l=⇑(.lst xs)):↑xs<=sizeLine/\∃ (aP:List Value) (n:Nat),b8 xs aP/\↑xs=↑aP/\s.heap.get? l=some { cls:=.type "list",data:=.seq aP.toArray n }:=by
 let⟨z,aP,n,r,e⟩:=I.hok l _ hH;exact⟨z,aP,n,r,↑r,e⟩
def zq{n:Nat}(h:n<=sizeLine):Builtin.List.listTooLong n=false:=by
 unfold Builtin.List.listTooLong;exact decide_eq_false ∅
end
section
variable {X:Cx}
inductive QK(x:V)(vs:List V)(H:Hp)(Q:VK):Prop
 | mk (l:Addr) (xs:List V) (y:V) (_:x=↥l) (_:vs=[y]) (_:H l=⇑(.lst xs)) (_:↑xs<sizeLine) (_:Q .fV (aM H l (.lst (xs++[y]))))
def bT:XW X "list.append" QK:=by
 intro ak s σ H x vs v us Q I rx rv h;let⟨l,xs,y,rfl,rfl,hH,hz,q⟩:=h;cases rx;let⟨u,rfl,ru⟩:=rv.one;let⟨z,aP,n,r,hl,e⟩:=I.AZ hH;refine call_meets F.slot_list_append ⟨_,e,rfl⟩ F.entry_list_append (F.args_list_append_2 _ _) (PySem.list_append l aP.toArray n u (by rw[gZ];lia)) ⟨e,?_⟩;refine⟨.fV,_,I.Nv (its':=aP++[u]) hH e (by simp) (r.append (.cons ru .nil)) ?_,rfl,q⟩;rw[cX,qy];lia
inductive QL(x:V)(vs:List V)(H:Hp)(Q:VK):Prop
 | mk (l b:Addr) (xs zs:List V) (_:x=↥l) (_:vs=[↥b]) (_:H l=⇑(.lst xs)) (_:H b=⇑(.lst zs)) (_:↑xs+↑zs<=sizeLine) (_:Q .fV (aM H l (.lst (xs++zs))))
def jV:XW X "list.extend" QL:=by
 intro ak s σ H x vs v us Q I rx rv h;let⟨l,b,xs,zs,rfl,rfl,hH,hB,hz,q⟩:=h;cases rx;let⟨u,rfl,ru⟩:=rv.one;cases ru;let⟨z,aP,n,r,hl,e⟩:=I.AZ hH;let⟨z2,its2,n2,r2,A0,e2⟩:=I.AZ hB;have hsz:aP.toArray.size+its2.toArray.size<=sizeLine:=by rw[gZ,gZ];lia
 have ES:¬ (!aP.toArray.isEmpty&&Builtin.List.listTooLong (aP.toArray.size+its2.toArray.size))=true:=by
  rw[zq hsz,Bool.and_false];exact gE
 refine call_meets F.slot_list_extend ⟨_,e,rfl⟩ F.entry_list_extend (F.args_list_extend_2 _ _) (AutoSeq1.list_extend_list_list_0 l aP.toArray n b its2.toArray n2 ES (by rw[gZ];lia) ∅) ⟨e,e2,?_⟩;refine⟨.fV,_,I.Nv (its':=aP++its2) hH e (by simp) (r.append r2) ?_,rfl,q⟩;rw[cX];lia
def adB:V->List V->Hp->VK->Prop:=λx vs H Q=>∃ l xs y,x=↥l/\vs=[]/\H l=⇑(.lst xs)/\xs[↑xs-1]?=⇑y/\Q y (aM H l (.lst xs.dropLast))
def Ny:XW X "list.pop" adB:=by
 intro ak s σ H x vs v us Q I rx rv h;let⟨l,xs,y,rfl,rfl,hH,hy,q⟩:=h;cases rx;have hus:=rv.zero;subst hus;let⟨z,aP,n,r,hl,e⟩:=I.AZ hH;let⟨u,hu,ru⟩:=r.get hy
 have Lc:aP.toArray[aP.toArray.size-1]?=⇑u:=by
  show aP.toArray[↑aP-1]?=⇑u;rw[← Array.getElem?_toList,← hl];exact hu
 refine call_meets F.slot_list_pop ⟨_,e,rfl⟩ F.entry_list_pop (F.args_list_pop_1 _) (MeetsSeq.list_pop_last l aP.toArray n u Lc (by rw[gZ];lia)) ⟨e,?_⟩;refine⟨y,_,I.Nv (its':=aP.dropLast) hH e ?_ r.dropLast ?_,ru,q⟩
 ·show aP.toArray.eraseIdxIfInBounds (aP.toArray.size-1)=aP.dropLast.toArray;rw[gZ,List.eraseIdxIfInBounds_toArray,HK]
 ·rw[List.length_dropLast];lia
def Vl:V->List V->Hp->VK->Prop:=λx vs H Q=>∃ l xs i k y,x=↥l/\vs=[.int i]/\H l=⇑(.lst xs)/\-(2^63)<=i/\i<2^63/\seqIndex? i ↑xs=⇑k/\xs[k]?=⇑y/\Q y (aM H l (.lst (xs.eraseIdx k)))
def Nz:XW X "list.pop" Vl:=by
 intro ak s σ H x vs v us Q I rx rv h;let⟨l,xs,i,k,y,rfl,rfl,hH,h1,h2,hk,hy,q⟩:=h;cases rx;let⟨u,rfl,ru⟩:=rv.one;let⟨t,rfl⟩:=ru;let⟨z,aP,n,r,hl,e⟩:=I.AZ hH;let⟨w,hw,jU⟩:=r.get hy;refine call_meets F.slot_list_pop ⟨_,e,rfl⟩ F.entry_list_pop (F.args_list_pop_2 _ _) (MeetsSeq.list_pop_at l aP.toArray n i t k w (fitsIndex_both h1 h2) (by rw[gZ,← hl];exact hk) (by rw[← Array.getElem?_toList];exact hw) (by rw[gZ];lia)) ⟨e,?_⟩;refine⟨y,_,I.Nv (its':=aP.eraseIdx k) hH e ?_ (r.eraseIdx k) ?_,jU,q⟩
 ·show aP.toArray.eraseIdxIfInBounds k=(aP.eraseIdx k).toArray;rw[List.eraseIdxIfInBounds_toArray]
 ·have:=BK xs k;lia
inductive Y7(x y:V)(H:Hp)(Q:VK):Prop
 | mk (l b:Addr) (xs zs:List V) (_:x=↥l) (_:y=↥b) (_:H l=⇑(.lst xs)) (_:H b=⇑(.lst zs)) (_:↑xs+↑zs<=sizeLine) (_:∀ p,H p=none->Q ↥p (aM H p (.lst (xs++zs))))
def jC:uJ X (binaryOp .Add) Y7:=by
 intro ak s σ H x y v u Q I rx ry h;let⟨l,b,xs,zs,rfl,rfl,hH,hB,hz,q⟩:=h;cases rx;cases ry;let⟨z,aP,n,r,hl,e⟩:=I.AZ hH;let⟨z2,its2,n2,r2,A0,e2⟩:=I.AZ hB;refine PySem.P.add_list e e2 ?_ (by rw[gZ,gZ];lia);have ea:aP.toArray++its2.toArray=(aP++its2).toArray:=by simp
 rw[ea];exact⟨↥_,_,I.QJ (t':=s.toks) (r.append r2) (by rw[cX];lia),rfl,q _ I.fresh⟩
def Y8:R2:=λx y H Q=>∃ l k xs,x=↥l/\y=.int k/\H l=⇑(.lst xs)/\-(2^63)<=k/\k<2^63/\↑xs*k.toNat<=sizeLine/\
 ∀ p,H p=none->Q ↥p (aM H p (.lst (List.replicate k.toNat xs).flatten))
def QM{α:Type}(xs:List α)(k:Nat):(List.replicate k xs).flatten.length=k*↑xs:=by
 induction k with
 | zero=>simp
 | succ k ih=>rw[List.replicate_succ,List.flatten_cons,cX,ih,Nat.succ_mul,Nat.add_comm]
def NB:uJ X (binaryOp .Mult) Y8:=by
 intro ak s σ H x y v u Q I rx ry h;let⟨l,k,xs,rfl,rfl,hH,h1,h2,hz,q⟩:=h;cases rx;let⟨t,rfl⟩:=ry;let⟨z,aP,n,r,hl,e⟩:=I.AZ hH;have cZ:aP.toArray.size*k.toNat<=sizeLine:=by rw[gZ,← hl];exact hz
 have hcap:¬ aP.toArray.size*k.toNat > (2^63-1) / 8:=by
  have:(sizeLine:Nat)<=(2^63-1) / 8:=by decide
  lia
 have hfit:¬ (!Builtin.List.listFitsIndex k)=true:=by
  rw[fitsIndex_both h1 h2];exact gE
 have ES:¬ Builtin.List.listTooLong (aP.toArray.size*k.toNat)=true:=by
  rw[zq cZ];exact gE
 have hnew:List.foldl (λx1 x2=>x1++x2) #[] (List.replicate (if aP.toArray.isEmpty=true then 0 else k.toNat) aP.toArray)=(List.replicate k.toNat aP).flatten.toArray:=by
  have f0:∀ m:Nat,List.foldl (λx1 x2=>x1++x2) #[] (List.replicate m aP.toArray)=(List.replicate m aP).flatten.toArray:=λm=>by
   have:=foldl_rep aP m [];rw[List.nil_append]at this;exact this
  rw[f0]
  cases aP with
  | nil=>simp
  | cons a r'=>rw[if_neg (by simp)]
 refine wpAny_binaryOp_repeat_ref (T:="list") (U:="int") (by decide) ⟨_,e,rfl⟩ (λs'=>typeIs_int s' k t) noFill_list_mul F.fills_int_mul F.slot_int_rmul repeat_list F.slot_int_index.lookup (call_meets F.slot_int_rmul (typeIs_int s k t) F.entry_int_rmul (F.args_int_rmul_2 _ _) (int___rmul___int_list k t l aP.toArray n) ⟨e,rfl,⟨_,e,rfl⟩,call_meets F.slot_list_mul ⟨_,e,rfl⟩ F.entry_list_mul (F.args_list_mul_2 _ _) (AutoListH.list___mul___list_int_3 l aP.toArray n k t hfit hcap ES) ⟨e,?_⟩⟩);rw[hnew];exact⟨↥_,_,I.QJ (t':=s.toks) (r.rep k.toNat) (by rw[QM,Nat.mul_comm];exact hz),rfl,q _ I.fresh⟩
end
end L2
namespace Att
open PySem.W Calls Rows
def yq{P:Params}{h:Heap}:∀ (ns:List Int) (vs:List Value),WellAll P h vs (ns.map WData.int)->IntsAre vs ns:=by
 intro ns
 induction ns with
 | nil =>
  intro vs w;rw[List.map_nil]at w;cases w;exact .nil
 | cons n ns ih =>
  intro vs w;rw[jy]at w
  cases w with
  | cons a b =>
   cases a;exact .cons _ _ (ih _ b)
theorem Ld{l:OpenLaw}{n:Nat}(hn:l.most=⇑n){P:Params}{h:Heap}{args:List WData}{Vm:List Value}
  (QN:l.row.toRowW.claim.pre args=true) (Y9:WellAll P h Vm args) :
  ∃ a vs ns,Vm=[Value.ref a]/\args=[WData.list (ns.map WData.int)]/\h.get? a=some { cls:=.type "list",data:=.seq vs.toArray }/\IntsAre vs ns/\↑ns<=n:=by
 have BL:WShape.hasAll [] args [.list .int]=true:=(pre_splitW QN).1;have hc:l.pre.holds [] { args:=args }=true:=(pre_splitW QN).2;let⟨d,r,rfl,h1,h2⟩:=hasAllW_cons BL;obtain rfl:=hasAllW_nil h2;let⟨xs,rfl,h3⟩:=hasW_list h1;let⟨ns,rfl⟩:=items_int h3
 have cZ:↑ns<=n:=by
  unfold OpenLaw.pre at hc
  have h4:(WTm.not (.lt (.lit (.int (n:Int))) (.len (.arg 0)))).holds [] { args:=[.list (ns.map .int)] }=true:=by
   have h4:=(holds_andW hc).1;rw[hn]at h4;exact h4
  have h5:=condW_of h4 (w_not (w_lt w_lit (w_len_list (w_arg rfl))));rw[cy]at h5;refine Nat.le_of_not_lt λq=>?_;have q':(n:Int)<((↑ns:Nat):Int):=by lia
  first
   | (rw[decide_eq_true q']at h5;exact absurd h5 (by decide))
   | (simp at h5;lia)
 cases Y9 with
 | cons w1 w2 =>
  cases w2
  cases w1 with
  | list ho NC=>exact⟨P,ns,V,ho,yq ns _ NC,cZ⟩
theorem Le(l:OpenLaw)(args:List WData):l.row.toRowW.claim.post args (.bool true) args=true :=
 postW_of (r:=l.row.toRowW) (X:=(true == true))
  (show WShape.has [] (.bool true) .bool=true by first|rfl|decide|simp[WShape.has,WShape.arms,WShape.armsAll])
  (show (WTm.eq .res (.lit (.bool true))).value [] { args:=args,res:=⇑(.bool true),after:=args }=⇑(.bool (true == true)) from w_eq_bool (w_res rfl) w_lit) rfl
theorem ET{l:OpenLaw}{n:Nat}{q:Program}{BN:List Str}{XP:(Str->Option Value)->Heap->Prop}{YP:World->Heap->Prop}{d:DefRec}
  (hn:l.most=⇑n) (Za:d.params.defaults=[])
  (call:∀ (w:World) (s₀ s₁:Shared) (mg mb:Str->Option Value) (fa:Addr) (o:Obj) (pm cd wg:Value) (a:Addr) (vs:List Value) (ns:List Int),
   Ground q BN [] XP w s₀ mg mb s₁.heap->YP w s₁.heap->
   s₁.heap.get? fa=⇑o->o.data=.func (docDef d.name d.params d.body d.scope pm cd wg)->s₁.heap.CodeRec cd d.name->mg d.name=⇑↥fa->
   s₁.heap.get? a=some { cls:=.type "list",data:=.seq vs.toArray }->IntsAre vs ns->↑ns<=n->s₁.gens=#[]->
   codeAny (model l.prog w) callerA (.call ↥fa ⟨[↥a],[]⟩) (λr s'=>r=.ok (.ret (.bool true))/\OldK s₁.heap s'.heap/\s'.os=s₁.os/\AllBare s'.gens) s₁) :
  WalkO q BN XP YP l.row.toRowW d [] (λf vs=>PySem.call f vs):=by
 intro w s₀ s₁ mg mb G Y fa o pm cd wg dV kV ho hd KP hD Zb hg args Vm as QN ajx hrd Y9 hlo;obtain rfl:dV=.none:=Dflts.none hD Za;obtain rfl:kV=.none:=Dflts.noKw hD;let⟨a,vs,ns,rfl,rfl,Vn,ND,cZ⟩:=Ld hn QN Y9;refine enter_call (codeAny_mono (call w s₀ s₁ mg mb fa o pm cd wg a vs ns G Y ho (fd_plain hd) KP Zb Vn ND cZ hg) λr s' hq=>?_);let⟨rfl,h2,h3,h4⟩:=hq;exact⟨.inl ⟨.bool true,.bool true,[],rfl,λ_=>rfl,.bool true,Le l _,λ_=>⟨List.Pairwise.nil,λ_ hm=>(nomatch hm)⟩⟩,h2,h3,h4⟩
end Att
namespace L2
open Spec Rows
theorem BO:∀ {vs:List Value} {ns:List Int},IntsAre vs ns->b8 (ns.map V.int) vs
 | _,_,.nil=>.nil
 | _,_,.cons n t h=>.cons ⟨t,rfl⟩ (BO h)
def Vo(H:Hp):Prop:=∀ b,H b=none\/∃ o xs,H b=⇑(.Hi o (.lst xs))
theorem NF{P:Program}{w:World}{K:PySem.W.Frag}{mg mb:Str->Option Value}{CX:K9}{k:Nat}{fa a:Addr}{fd:FuncData}{x:Str}{sp:Sp}{s₁:Shared}{vs:List Value}{ns:List Int}
  (KX:K.In s₁.heap) (MO:s₁.heap.Ns mainGlobals mg) (hb:s₁.heap.Ns builtinsNs mb) (hbb:∀ x:Str,x≠"__name__"->mb x=bootBuiltins x) (adC:s₁.heap.NoLimit) (hg:s₁.gens=#[])
  (ha:s₁.heap.get? a=some { cls:=.type "list",data:=.seq vs.toArray }) (hi:IntsAre vs ns) (hl:↑ns<=sizeLine) (hr:gT k callerA)
  (F:∀ zt:Heap,K.In zt->zt.Ns mainGlobals mg->aY P w K mg zt CX k fa fd [x] sp) (Zc:∀ (s:Shared) (u:Value),BindsTo s fd ⟨[u],[]⟩ [(x,u)])
  (Hz:∀ H:Hp,Vo H->bC K H a (ns.map V.int)->sp [↥a] H (λv _=>v=.bl true) λ_ _ _=>False)
  (hCX:∀ H e s',CX [] H s₁ (λ_ _ _=>False) e s'->False) :
  codeAny (model P w) callerA (.call ↥fa ⟨[↥a],[]⟩) (λr s'=>r=.ok (.ret (.bool true))/\OldK s₁.heap s'.heap/\s'.os=s₁.os/\AllBare s'.gens) s₁:=by
 have rv:=BO hi;have adE:=↑hi
 have core:∀ H:Hp,Vo H->bC K H a (ns.map V.int)->oH P w H s₁.heap->(∀ b,H b≠none->b=a)->(H a≠none->K.lookup a=none)->
   codeAny (model P w) callerA (.call ↥fa ⟨[↥a],[]⟩) (λr s'=>r=.ok (.ret (.bool true))/\OldK s₁.heap s'.heap/\s'.os=s₁.os/\AllBare s'.gens) s₁:=by
  intro H hO hS hok hA hK;have JL:∀ {b:Addr} {o:Obj},s₁.heap.get? b=⇑o->H b=none->(CJ s₁.heap H).get? b=⇑o:=λe n=>MZ e n
  have YY:∀ {b:Addr} {o:Obj} {es:Array DictEntry} {ep:Nat},s₁.heap.get? b=⇑o->o.data=.dict es ep->H b=none:=λ{b o es ep} e d=>by
   cases q:H b with
   | none=>rfl
   | some u =>
    have e':b=a:=hA b (by rw[q];simp);subst e';rw[ha]at e;cases e;have d':Data.seq vs.toArray _=Data.dict es ep:=d;cases d'
  have nsK:∀ {b:Addr} {m:Str->Option Value},s₁.heap.Ns b m->(CJ s₁.heap H).Ns b m:=λ{b m} ⟨o,es,ep,e,d,r⟩=>⟨o,es,ep,JL e (YY e d),d,r⟩
  have hKb:K.In (CJ s₁.heap H):=λb o e=>JL (KX b o e) (by
   cases q:H b with
   | none=>rfl
   | some u =>
    have e':b=a:=hA b (by rw[q];simp);subst e'
    rw[hK (by rw[q];simp)]at e;cases e)
  have hM:Mod K mg (CJ s₁.heap H):=⟨hKb,nsK MO,⟨mb,nsK hb,hbb⟩,let ⟨mc,h1,h2⟩:=adC;⟨mc,nsK h1,h2⟩⟩;have e0:Hy P w K mg (CJ s₁.heap H) callerA [] s₁ H:=⟨rfl,hM,λb o e=>Qw e,Nat.le_of_eq (KL _ _),trivial,λb hb=>absurd (show b∈([]:List Addr) from hb) (by simp),hok,.of_eq hg⟩;refine codeAny_mono ((F _ hKb (nsK MO)).run callerA [] s₁ H ⟨[↥a],[]⟩ [↥a] [↥a] _ _ hr e0 (Zc s₁ ↥a) (.cons rfl .nil) (Hz H hO hS)) λr s' h=>?_
  cases r with
  | error e=>exact (hCX H e s' h).elim
  | ok fl =>
   cases fl with
   | next=>exact False.elim h
   | brk=>exact False.elim h
   | cont=>exact False.elim h
   | ret u =>
    let⟨v,H',os,bare,un,CZ,r',q⟩:=h;have q':v=.bl true:=q;subst q';obtain rfl:u=Value.bool true:=r';refine⟨rfl,OldK.of_keep λb o e=>?_,os,bare⟩
    cases q:H b with
    | none=>exact un.keep b o e q (by intro z;exact absurd (show b∈([]:List Addr) from z) (by simp)) (by simp)
    | some u =>
     rcases hO b with z|⟨ob,xs,z⟩
     ·rw[q]at z;cases z
     ·have z2:=un.tM b ob _ z;let⟨e1,_⟩:=hok b _ z;let⟨e2,_⟩:=CZ b _ z2;rw[e]at e1;cases e1;exact e2
 cases hk:K.lookup a with
 | some o =>
  have e:=KX a o hk;rw[ha]at e;cases e;refine core (λ_=>none) (λ_=>.inl rfl) (.inr ⟨_,vs.toArray,_,hk,V,rfl,by rw[gZ,adE];exact hl,by simpa using rv⟩) (λb u z=>by have z':(none:Option HO)=⇑u:=z;cases z') (λb z=>absurd rfl z) λz=>absurd rfl z
 | none =>
  refine core (λb=>if b=a then some (.Hi { cls:=.type "list",data:=.seq vs.toArray } (.lst (ns.map V.int))) else none) (λb=>?_) (.inl (.inr ⟨{ cls:=.type "list",data:=.seq vs.toArray },if_pos rfl⟩)) (λb u z=>?_) (λb z=>?_) λ_=>hk
  ·by_cases hb:b=a
   ·exact .inr ⟨P,if_pos hb⟩
   ·exact .inl (if_neg hb)
  ·by_cases hb:b=a
   ·have z':=(if_pos hb).symm.trans z;cases z';subst hb;exact⟨ha,by rw[cy];exact hl,vs,_,rv,ha⟩
   ·have z':=(if_neg hb).symm.trans z;cases z'
  ·by_cases hb:b=a
   ·exact hb
   ·exact absurd (if_neg hb) z
end L2
namespace L2
open Spec Rows
theorem QO{l:PySem.W.OpenLaw}{n k:Nat}{q:Program}{BN:List Str}{XP:(Str->Option Value)->Heap->Prop}{YP:World->Heap->Prop}{d:DefRec}{K:Params->PySem.W.Frag}{CX:World->K9}{sp:World->Sp}{x:Str}
  (hn:l.most=⇑n) (hn2:n<=sizeLine) (Za:d.params.defaults=[]) (hr:gT k callerA)
  (hY:∀ (w:World) (h:Heap),YP w h->(K w.params).In h)
  (F:∀ (w:World) (mg:Str->Option Value) (fa:Addr) (h:Heap),(K w.params).In h->h.Ns mainGlobals mg->mg d.name=⇑↥fa->
   ∃ fd:FuncData,(∀ (s:Shared) (u:Value),BindsTo s fd ⟨[u],[]⟩ [(x,u)])/\
    ∀ zt:Heap,(K w.params).In zt->zt.Ns mainGlobals mg->aY l.prog w (K w.params) mg zt (CX w) k fa fd [x] (sp w))
  (Hz:∀ (w:World) (H:Hp) (a:Addr) (ns:List Int),↑ns<=n->Vo H->bC (K w.params) H a (ns.map V.int)->sp w [↥a] H (λv _=>v=.bl true) λ_ _ _=>False)
  (hCX:∀ (w:World) (H:Hp) (s:Shared) (e:Value) (s':Shared),CX w [] H s (λ_ _ _=>False) e s'->False) :
  PySem.W.WalkO q BN XP YP l.row.toRowW d [] (λf vs=>PySem.call f vs):=by
 refine Att.ET hn Za λw s₀ s₁ mg mb fa o pm cd wg a vs ns G Y ho hd KP Zb Vn ND cZ hg=>?_;have KX:=hY w _ Y;let⟨fd,hb,hF⟩:=F w mg fa _ KX G.T.g Zb;exact NF KX G.T.g G.T.b G.T.builtins G.T.nolimit hg Vn ND (jv cZ hn2) hr hF hb (λH hO hS=>Hz w H a ns cZ hO hS) λH e s'=>hCX w H s₁ e s'
end L2
namespace L2
open Spec Rows
def mT(s:Stmt):Arguments:=match s with
 | .FunctionDef _ a _ _ _ _ _ _ _ _=>a
 | _=>{ posonlyargs:=[],args:=[],vararg:=none,kwonlyargs:=[],kw_defaults:=[],kwarg:=none,defaults:=[] }
def iJ(s:Stmt):List Stmt:=match s with
 | .FunctionDef _ _ b _ _ _ _ _ _ _=>b
 | _=>[]
def aB(s:Stmt):Scope:=match s with
 | .FunctionDef _ _ _ _ _ _ sc _ _ _=>sc
 | _=>{ kind:=.function,names:=[],isGenerator:=false,isCoroutine:=false }
abbrev cP:K9:=λ_ _ _ _ _ _=>False
abbrev E0:XK:=λ_ _ _=>False
theorem cj{X:Cx}:jz cP X E0:=λ_ _ _ _ _ _ _ h=>h.elim
structure NG(K:PySem.W.Frag)(x cE:Str)(st:Stmt)(f:Addr)(fd:FuncData):Prop where
 ex:∃ (oc:Value) (od:Option Addr) (kV wg pm:Value) (an:Option Addr) (cJ ct:Value) (Lb:Array (Option Value)),
  fd=fnOf x cE (mT st) (iJ st) (aB st) .none kV wg pm an cJ ct/\K.lookup f=some ⟨oc,od,.func fd,Lb⟩/\codeIn K cJ cE=true
 kp:PySem.W.keepIn K ↥f=true
section
variable {P:Program} {w:World} {K:PySem.W.Frag} {mg:Str->Option Value} {zt:Heap}
theorem NG.ok{x cE:Str}{st:Stmt}{f:Addr}{N ps:List Str}{k:Nat}{sp:Sp}(F:NG K x cE st f fd)(S:aH N ps (aB st))(len:∀ vs H Q E,sp vs H Q E->↑vs=↑ps)
  (uQ:∀ (cJ:Value) (A:Around) (zn:List Env) (s:Shared) (H:Hp) (vs:List V) (Q:VK) (E:XK),gT k (A.deeper (envOfC cE (aB st) s.heap.objs.size f cJ))->sp vs H Q E->
   ∃ t,CK (EO cP P w K mg zt N cE (aB st) f cJ A zn s H E).EI (iJ st) t/\t { nx:=λ_ H'=>Q .fV H',rt:=Q } (start N vs) H):aY P w K mg zt cP (k+1) f fd ps sp:=by
 let⟨oc,od,kV,wg,pm,an,cJ,ct,Lb,rfl,lk,KP⟩:=F.ex;refine TY lk KP S len λA zn s H vs Q E hr Hz=>?_;let⟨t,h,q⟩:=uQ cJ A zn s H vs Q E hr Hz;exact⟨t,h.EI,q⟩
theorem NG.binds{x cE:Str}{st:Stmt}{f:Addr}{ps:List Str}(F:NG K x cE st f fd)
  (h:∀ (kV wg pm:Value) (an:Option Addr) (cJ ct:Value) (us:List Value),↑us=↑ps->bindArgs (fnOf x cE (mT st) (iJ st) (aB st) .none kV wg pm an cJ ct) ⟨us,[]⟩=pure (ps.zip us)):Binds K fd ps []:=by
 let⟨oc,od,kV,wg,pm,an,cJ,ct,Lb,rfl,lk,KP⟩:=F.ex;exact .all (h kV wg pm an cJ ct)
theorem HL{x cE:Str}{st:Stmt}{f:Addr}{oc:Value}{od an:Option Addr}{Lb:Array (Option Value)}{kV wg pm cJ ct:Value}(l:K.lookup f=some ⟨oc,od,.func (fnOf x cE (mT st) (iJ st) (aB st) .none kV wg pm an cJ ct),Lb⟩)
  (c:codeIn K cJ cE=true) (k:PySem.W.keepIn K ↥f=true):NG K x cE st f (fnOf x cE (mT st) (iJ st) (aB st) .none kV wg pm an cJ ct):=⟨⟨oc,od,kV,wg,pm,an,cJ,ct,Lb,rfl,l,c⟩,k⟩
end
theorem gF{A:Around}{k:Nat}(hr:gT k A):A.units+1<cLine:=Nat.lt_of_le_of_lt (Nat.add_le_add_left (by decide:1<=64) _) hr.units
section
variable {X:Cx}
theorem pv(i:Nat){x:Str}{pos:Pos}(hN:X.N[i]?=⇑x:=by rfl)(hv:Vis X.env.scope x:=by first|exact Or.inl rfl|exact Or.inr (Or.inl rfl)|exact Or.inr (Or.inr rfl))(hd:(x == ("__debug__":Str))=false:=by decide)
  (KP:(x == ("__classdict__":Str))=false:=by decide):PE X (.Name x pos) (UR i):=US hN hv hd KP
end
def dM{A B:Prop}(h:B):if false=true then A else B:=by
 rw[if_neg gE];exact h
def ji{A B:Prop}(h:A):if true=true then A else B:=by
 rw[if_pos rfl];exact h
def cT{c A B:Prop} [Decidable c] (h1:c->A) (h2:¬ c->B):if c then A else B:=by
 by_cases h:c
 ·rw[if_pos h];exact h1 h
 ·rw[if_neg h];exact h2 h
def EU{c A B:Prop} [Decidable c] (hc:c) (h:B):if (!decide c)=true then A else B:=by
 rw[decide_eq_true hc];exact dM h
def aJ(H H':Hp):Prop:=∀ b o,H b=⇑o->H' b=⇑o
theorem aJ.refl(H:Hp):aJ H H:=λ_ _ h=>h
theorem aJ.trans{H H1 H2:Hp}(a:aJ H H1)(b:aJ H1 H2):aJ H H2:=λc o h=>b c o (a c o h)
def aJ.free{H H':Hp}(e:aJ H H'){l:Addr}(h:H' l=Option.none):H l=Option.none:=by
 cases q:H l with
 | none=>rfl
 | some o =>
  rw[e l o q]at h;cases h
end L2
namespace gh
open PySem.W L2
def EV(bm:List Value):List Value->Bool
 | .ref _::r=>EV bm r
 | l=>l == bm
abbrev QS:List Value:=[.type "ValueError",.type "Exception",.type "BaseException",.type "object"]
def bears(K:Frag)(C:Addr):Bool:=(clsIn K C).any λcd=>EV QS cd.mro&&cd.hasDict
def tS(K:Frag)(C:Addr)(Er:List Value)(jq:String)(fI:Addr):Bool:=match K.lookup C with
 | some ⟨.type "type",_,.cls cd,sl⟩=>(match cd.mro,sl.toList with
  | .ref c::bm,[_,_,_,_,some (.builtin n),_]=>c == C&&n == jq&&!cd.hasDel&&tailIn K Er bm&&nsOkIn K cd.ns&&nsIn K cd.ns "__init__" == some (⇑↥fI)
  | _,_=>false)
 | _=>false
def kB(K:Frag)(c:Addr):Bool:=keepIn K ↥c&&bears K c&&(findIn K ↥c "__getattribute__" == some (⇑(.builtin "BaseException.__getattribute__")))&&(findIn K ↥c "__getattr__" == some none)&&(findIn K ↥c "__class__" == some (⇑(.builtin "object.__class__")))
def exR(K:Frag)(c fa:Addr):Bool:=tS K c QS "ValueError.__new__" fa&&(typeIn K ↥fa == some (.type "function"))&&(findIn K ↥c "way" == some none)&&(findIn K ↥c "__setattr__" == some (⇑(.builtin "object.__setattr__")))
end gh
namespace gG
open L2
def top(i:Nat):Stmt:=PySem.Challenge.pw_inkroot_k40_whole_rings_refused.main.body.getD i (.Pass ⟨0,0,0,0⟩)
def QT:Stmt->List Stmt
 | .ClassDef (body:=b) ..=>b
 | _=>[]
def gA(i j:Nat):Stmt:=(QT (top i)).getD j (.Pass ⟨0,0,0,0⟩)
inductive DI(K:PySem.W.Frag)(x:Str)(st:Stmt)(f:Addr):Prop
 | mk {oc:Value} {od an:Option Addr} {Lb:Array (Option Value)} {kV wg pm cJ ct:Value} (_:PySem.W.nsIn K mainGlobals x=⇑(⇑↥f)) (_:K.lookup f=some ⟨oc,od,.func (fnOf x x (mT st) (iJ st) (aB st) .none kV wg pm an cJ ct),Lb⟩) (_:codeIn K cJ x=true) (_:PySem.W.keepIn K ↥f=true)
inductive MI(K:PySem.W.Frag)(C:Addr)(x cE:Str)(st:Stmt)(f:Addr):Prop
 | mk {oc:Value} {od an:Option Addr} {Lb:Array (Option Value)} {kV wg pm cJ ct:Value} (_:PySem.W.findIn K ↥C x=⇑(⇑↥f)) (_:isFn K ↥f=true) (_:K.lookup f=some ⟨oc,od,.func (fnOf x cE (mT st) (iJ st) (aB st) .none kV wg pm an cJ ct),Lb⟩) (_:codeIn K cJ cE=true) (_:PySem.W.keepIn K ↥f=true)
inductive CI(K:PySem.W.Frag)(x:Str)(C:Addr):Prop
 | mk (_:PySem.W.nsIn K mainGlobals x=⇑(⇑↥C)) (_:plainGet K C Str.empty=true) (_:hasDictIn K C=true) (_:plainOver K C=true) (_:PySem.W.findIn K ↥C "__setattr__"=⇑(⇑(.builtin "object.__setattr__"))) (_:makesIn K C=true) (_:PySem.W.keepIn K ↥C=true)
inductive XI(K:PySem.W.Frag)(x:Str)(C:Addr):Prop
 | mk (_:PySem.W.nsIn K mainGlobals x=⇑(⇑↥C)) (_:PySem.W.excIn K C [.type "ValueError",.type "Exception",.type "BaseException",.type "object"] "ValueError.__new__"=true) (_:PySem.W.exmOne K ↥C ↥C=⇑true)
class inductive NH(K:PySem.W.Frag)
 | mk (a:Addr) (ns:List Int) (_:vs=[↥a]) (_:bC K H a (ns.map V.int)) (_:↑ns<=63) (_: ∀ H',Q (.bl true) H')
def NI(K:PySem.W.Frag)(c:Addr):Bool:=gh.kB K c&&(PySem.W.specialIn K (.builtin "object.__class__") "__get__" == some (⇑(.builtin "getset_descriptor.__get__")))&&(PySem.W.takesIn K (.builtin "object.__class__") == some true)
inductive RgA(K:PySem.W.Frag)(c ci:Addr):Prop
 | mk (_:PySem.W.nsIn K mainGlobals "Ring"=⇑(⇑↥c)) (_:PySem.W.nsIn K mainGlobals "InkError"=⇑(⇑↥ci)) (_:PySem.W.specialIn K ↥ci "__getattribute__"=⇑(⇑(.builtin "type.__getattribute__"))) (_:PySem.W.readsIn K ci (.type "type")=true) (_:PySem.W.findCls K ↥ci (.type "type") "__init__"=⇑(.val (.builtin "ValueError.__init__")))
inductive RgB(K:PySem.W.Frag)(c fa xh:Addr):Prop
 | mk (_:NI K c=true) (_:gh.exR K c fa=true) (_:PySem.W.exmOne K ↥c ↥c=⇑true) (_:PySem.W.exmOne K ↥xh ↥c=⇑false)
abbrev wz:Stmt:=top 68
abbrev tT:Stmt:=top 69
abbrev qH:Stmt:=top 70
abbrev tU:Stmt:=top 71
abbrev HM:Stmt:=top 11
abbrev JM:Stmt:=top 12
abbrev ni:Stmt:=top 14
abbrev C0:Stmt:=top 15
abbrev kH:Stmt:=gA 26 0
abbrev oQ:Stmt:=top 16
abbrev uW:Stmt:=top 30
abbrev C1:Stmt:=top 31
abbrev oR:Stmt:=top 40
abbrev NJ:Stmt:=top 41
abbrev oS:Stmt:=top 36
abbrev jD:Stmt:=top 37
abbrev C2:Stmt:=top 38
abbrev wA:Stmt:=top 32
abbrev lD:Stmt:=top 33
abbrev HN:Stmt:=top 34
abbrev zu:Stmt:=top 43
abbrev oU:Stmt:=top 44
abbrev C3:Stmt:=top 45
abbrev HP:Stmt:=top 46
abbrev tV:Stmt:=top 47
abbrev tW:Stmt:=top 49
abbrev C4:Stmt:=top 48
abbrev tX:Stmt:=top 50
abbrev oV:Stmt:=top 52
abbrev qI:Stmt:=top 53
abbrev zw:Stmt:=top 55
abbrev kJ:Stmt:=gA 56 0
abbrev tY:Stmt:=gA 56 3
abbrev qJ:Stmt:=gA 56 2
abbrev qK:Stmt:=gA 56 1
abbrev jj:Stmt:=gA 56 4
abbrev iV:Stmt:=gA 56 5
abbrev tZ:Stmt:=gA 56 7
abbrev iK:Stmt:=gA 56 10
abbrev qL:Stmt:=gA 56 9
abbrev lP:Stmt:=gA 58 0
abbrev lQ:Stmt:=gA 28 0
abbrev lR:Stmt:=gA 60 0
abbrev t6:Stmt:=gA 60 2
abbrev t7:Stmt:=gA 60 1
abbrev mU:Stmt:=gA 60 6
abbrev jE:Stmt:=gA 8 0
abbrev oW:Stmt:=top 65
abbrev lS:Stmt:=gA 66 1
abbrev nj:Stmt:=gA 66 26
abbrev oX:Stmt:=gA 66 25
abbrev kK:Stmt:=gA 66 2
abbrev lT:Stmt:=gA 66 3
abbrev lU:Stmt:=gA 66 7
abbrev lV:Stmt:=gA 66 30
abbrev nu:Stmt:=gA 66 6
abbrev oY:Stmt:=gA 66 27
abbrev iW:Stmt:=gA 66 4
abbrev oZ:Stmt:=gA 66 8
abbrev jF:Stmt:=gA 66 0
abbrev pA:Stmt:=gA 66 9
abbrev pB:Stmt:=gA 66 28
abbrev kL:Stmt:=gA 66 12
abbrev kM:Stmt:=gA 66 35
abbrev kO:Stmt:=top 21
abbrev C5:Stmt:=top 22
abbrev pC:Stmt:=gA 26 3
abbrev iX:Stmt:=gA 60 5
abbrev t9:Stmt:=gA 60 3
abbrev je:Stmt:=gA 66 23
abbrev ny:Stmt:=gA 66 32
abbrev nA:Stmt:=gA 66 34
abbrev ua:Stmt:=top 74
abbrev pD:Stmt:=top 75
abbrev mW:Stmt:=top 82
abbrev uc:Stmt:=top 83
abbrev ud:Stmt:=top 84
abbrev qM:Stmt:=top 72
abbrev ue:Stmt:=top 77
abbrev nB:Stmt:=top 78
abbrev pF:Stmt:=top 79
abbrev wB:Stmt:=top 80
abbrev wC:Stmt:=top 81
abbrev nC:Stmt:=top 85
abbrev pG:Stmt:=top 73
abbrev lW:Stmt:=top 76
abbrev pH:Stmt:=top 86
abbrev nE:Stmt:=top 87
abbrev pI:Stmt:=top 88
abbrev qN:Stmt:=top 89
abbrev qO:Stmt:=top 90
abbrev pJ:Stmt:=top 95
abbrev jW:Stmt:=top 94
abbrev pK:Stmt:=top 96
abbrev nF:Stmt:=top 97
abbrev uf:Stmt:=top 91
abbrev jG:Stmt:=top 92
abbrev pL:Stmt:=top 93
abbrev QU:Stmt:=top 98
end gG
namespace gG
open L2
inductive Pm(K:PySem.W.Frag)(mg:Str->Option Value)(fa:Addr):Prop
 | mk {h:Heap} {A1 A2 NK:Tok} (dZ gH gB BP EW bL aA BQ QV:Addr) (X:K.In h) (G:h.Ns mainGlobals mg) (hfa:mg "law"=⇑↥fa)
  (JN:CI K "Shelf" dZ)
  (j4:PySem.W.findIn K ↥dZ "states"=⇑none)
  (nR:PySem.W.findIn K ↥dZ "openings"=⇑none)
  (NL:CI K "Well" gH)
  (ug:PySem.W.findIn K ↥gH "signs"=⇑none)
  (uX:PySem.W.findIn K ↥gH "owners"=⇑none)
  (nU:PySem.W.findIn K ↥gH "pourings"=⇑none)
  (JO:CI K "Blots" gB)
  (uY:PySem.W.findIn K ↥gB "stains"=⇑none)
  (NN:CI K "Ties" BP)
  (C6:PySem.W.findIn K ↥BP "given"=⇑none)
  (C7:PySem.W.findIn K ↥BP "pairs"=⇑none)
  (NO:CI K "Dues" EW)
  (JP:PySem.W.findIn K ↥EW "sums"=⇑none)
  (BR:CI K "Library" bL)
  (xV:PySem.W.findIn K ↥bL "well"=⇑none)
  (gC:PySem.W.findIn K ↥bL "shelf"=⇑none)
  (zx:PySem.W.findIn K ↥bL "blots"=⇑none)
  (C8:PySem.W.findIn K ↥bL "knots"=⇑none)
  (JQ:PySem.W.findIn K ↥bL "dues"=⇑none)
  (EX:PySem.W.findIn K ↥bL "book"=⇑none)
  (xRa:RgA K BQ QV)
  (q0:DI K "_law_src" wz f0)
  (q1:DI K "_law_next" tT f1)
  (q2:DI K "_law_whole" qH f2)
  (q3:DI K "_law_same" tU f3)
  (q4:DI K "plain" HM f4)
  (q5:DI K "size" JM f5)
  (q6:DI K "check_places" ni f6)
  (q7:DI K "pieces" C0 f7)
  (q8:MI K gB "__init__" "Blots.__init__" kH f8)
  (q9:DI K "addresses" oQ f9)
  (BS:DI K "windows" uW f10)
  (q11:DI K "below" C1 f11)
  (q12:DI K "way_between" oR f12)
  (q13:DI K "ring" NJ f13)
  (q14:DI K "item_weight" oS f14)
  (q15:DI K "weights_below" jD f15)
  (q16:DI K "weight" C2 f16)
  (q17:DI K "item_row" wA f17)
  (q18:DI K "views_below" lD f18)
  (q19:DI K "shown" HN f19)
  (q20:DI K "goes_on" zu f20)
  (q21:DI K "plain_items" oU f21)
  (q22:DI K "inked" C3 f22)
  (q23:DI K "dealt" HP f23)
  (q24:DI K "put_among" tV f24)
  (q25:DI K "put_items" tW f25)
  (q26:DI K "parted" C4 f26)
  (q27:DI K "cut_items" tX f27)
  (q28:DI K "ink_words" oV f28)
  (q29:DI K "shown_deed" qI f29)
  (q30:DI K "changed" zw f30)
  (q31:MI K dZ "__init__" "Shelf.__init__" kJ f31)
  (q32:MI K dZ "now" "Shelf.now" tY f32)
  (q33:MI K dZ "many" "Shelf.many" qJ f33)
  (q34:MI K dZ "step" "Shelf.step" qK f34)
  (q35:MI K dZ "check_sheet" "Shelf.check_sheet" jj f35)
  (q36:MI K dZ "check_moment" "Shelf.check_moment" iV f36)
  (q37:MI K dZ "rows_then" "Shelf.rows_then" iK f37)
  (q38:MI K dZ "rows" "Shelf.rows" qL f38)
  (q39:MI K dZ "row" "Shelf.row" tZ f39)
  (q40:MI K BP "__init__" "Ties.__init__" lP f40)
  (q41:MI K EW "__init__" "Dues.__init__" lQ f41)
  (q42:MI K gH "__init__" "Well.__init__" lR f42)
  (q43:MI K gH "size" "Well.size" t6 f43)
  (q44:MI K gH "pour" "Well.pour" t7 f44)
  (q45:MI K gH "holds" "Well.holds" mU f45)
  (q46:MI K BQ "__init__" "Ring.__init__" jE f46)
  (q47:DI K "check_weave" oW f47)
  (q48:MI K bL "__init__" "Library.__init__" jF f48)
  (q49:MI K bL "enter" "Library.enter" lS f49)
  (q50:MI K bL "change" "Library.change" kK f50)
  (q51:MI K bL "many" "Library.many" nj f51)
  (q52:MI K bL "now" "Library.now" oX f52)
  (q53:MI K bL "begin" "Library.begin" lT f53)
  (q54:MI K bL "fresh" "Library.fresh" lU f54)
  (q55:MI K bL "ink" "Library.ink" oY f55)
  (q56:MI K bL "check_held" "Library.check_held" iW f56)
  (q57:MI K bL "pour" "Library.pour" nu f57)
  (q58:MI K bL "put" "Library.put" oZ f58)
  (q59:MI K bL "shown" "Library.shown" lV f59)
  (q60:MI K bL "cut" "Library.cut" pA f60)
  (q61:MI K bL "row" "Library.row" pB f61)
  (q62:MI K bL "window" "Library.window" kL f62)
  (q63:MI K bL "weight" "Library.weight" kM f63)
  (q64:DI K "first_reaching" kO f64)
  (q65:DI K "within" C5 f65)
  (q66:MI K gB "hides" "Blots.hides" pC f66)
  (q67:MI K gH "check_address" "Well.check_address" iX f67)
  (q68:MI K gH "sign" "Well.sign" t9 f68)
  (q69:MI K bL "veiled" "Library.veiled" je f69)
  (q70:MI K bL "text" "Library.text" ny f70)
  (q71:MI K bL "size" "Library.size" nA f71)
  (q72:DI K "_law_sign" ua f72)
  (q73:DI K "_law_text" pD f73)
  (q74:DI K "_law_world" mW f74)
  (q75:DI K "_law_keep" uc f75)
  (q76:DI K "_law_swap" ud f76)
  (q77:DI K "_law_spell" qM f77)
  (q78:DI K "_law_show" ue f78)
  (q79:DI K "_law_reached" nB f79)
  (q80:DI K "_law_pieces" pF f80)
  (q81:DI K "_law_put" wB f81)
  (q82:DI K "_law_cut" wC f82)
  (q83:DI K "_law_weighed" nC f83)
  (q84:DI K "_law_row_of" pG f84)
  (q85:DI K "_law_items_of" lW f85)
  (q86:DI K "_law_fits" pH f86)
  (q87:DI K "_law_ink_row" nE f87)
  (q88:DI K "_law_pour" pI f88)
  (q89:DI K "_law_fresh" qN f89)
  (q90:DI K "_law_begin" qO f90)
  (q91:DI K "_law_walked" pJ f91)
  (q92:DI K "_law_window_way" jW f92)
  (q93:DI K "_law_window" pK f93)
  (q94:DI K "_law_between" nF f94)
  (q95:DI K "_law_read" uf f95)
  (q96:DI K "_law_sheet_right" jG f96)
  (q97:DI K "_law_seen" pL f97)
  (q98:DI K "law" QU f98)
  (z0:PySem.W.nsIn K mainGlobals "len"=⇑none)
  (z1:PySem.W.nsIn K mainGlobals "list"=⇑none)
  (z2:PySem.W.nsIn K mainGlobals "tuple"=⇑none)
  (z3:PySem.W.nsIn K mainGlobals "int"=⇑none)
  (z4:PySem.W.nsIn K mainGlobals "bool"=⇑none)
  (z5:PySem.W.nsIn K mainGlobals "str"=⇑none)
  (z6:PySem.W.nsIn K mainGlobals "range"=⇑none)
  (z7:PySem.W.nsIn K mainGlobals "zip"=⇑none)
  (z8:PySem.W.nsIn K mainGlobals "isinstance"=⇑none)
  (z9:PySem.W.nsIn K mainGlobals "sum"=⇑none)
  (z10:PySem.W.nsIn K mainGlobals "min"=⇑none)
  (z11:PySem.W.nsIn K mainGlobals "max"=⇑none)
  (z12:PySem.W.nsIn K mainGlobals "all"=⇑none)
  (BU:XI K "TooHeavy" aA)
  (sP:PySem.W.nsIn K mainGlobals "MOST_SHEETS"=⇑(⇑(.int 40 A1)))
  (sQ:PySem.W.nsIn K mainGlobals "MOST_WEIGHT"=⇑(⇑(.int 200 A2)))
  (EY:PySem.W.nsIn K mainGlobals "HIDDEN"=⇑(⇑(.str "#" NK)))
  (uZ:PySem.W.nsIn K mainGlobals "size_spans"=⇑(⇑↥f5))
  (sR:PySem.W.nsIn K mainGlobals "shown_weave"=⇑(⇑↥f19))
  (qP:PySem.W.nsIn K mainGlobals "weight_weave"=⇑(⇑↥f16))
  (xRb:RgB K BQ f46 aA)
def T3:Prop:=∀ {P:Program} {w:World} {K:PySem.W.Frag} {mg:Str->Option Value} {fa:Addr},Pm K mg fa->∃ fd:FuncData,(∀ (s:Shared) (v:Value),BindsTo s fd ⟨[v],[]⟩ [("_law_script",v)])/\∀ zt:Heap,K.In zt->zt.Ns mainGlobals mg->aY P w K mg zt cP 47 fa fd ["_law_script"] (NH K)
theorem walk{l:PySem.W.OpenLaw}{q:Program}{BN:List Str}{XP:(Str->Option Value)->Heap->Prop}{YP:World->Heap->Prop}{d:DefRec}{K:Params->PySem.W.Frag}(hn:l.most=some 63)(Za:d.params.defaults=[])
  (hY:∀ (w:World) (h:Heap),YP w h->(K w.params).In h)
  (F:∀ (w:World) (mg:Str->Option Value) (fa:Addr) (h:Heap),(K w.params).In h->h.Ns mainGlobals mg->mg d.name=⇑↥fa->
   ∃ fd:FuncData,(∀ (s:Shared) (u:Value),BindsTo s fd ⟨[u],[]⟩ [("_law_script",u)])/\∀ zt:Heap,(K w.params).In zt->zt.Ns mainGlobals mg->aY l.prog w (K w.params) mg zt cP 47 fa fd ["_law_script"] (NH (K w.params))) :
  PySem.W.WalkO q BN XP YP l.row.toRowW d [] (λf vs=>PySem.call f vs) :=
 L2.QO (n:=63) (k:=47) (x:="_law_script") (CX:=λ_=>cP) (sp:=λw=>NH (K w.params)) hn (by decide) Za ⟨rfl,E,E⟩ hY F (λ_ _ a ns hl _ hS=>⟨a,ns,rfl,hS,hl,λ_=>rfl⟩) λ_ _ _ _ _ z=>z
end gG
namespace InkHd
open PySem.W Rows
set_option maxRecDepth 100000 in
set_option maxHeartbeats 0 in
def hd2(A:gG.T3):PySem.Challenge.rw_inkroot_k40_whole_rings_refused.Holds:=by
 refine hd_k40 ?_
 k_fill
 refine gG.walk (l:=PySem.Challenge.rw_inkroot_k40_whole_rings_refused) rfl rfl (λw h Y=>kIn_of Y) ?F
 case F =>
  intro w mg fa h KX G Zb
  refine' A (.mk _ _ _ _ _ _ _ _ _ KX G Zb (.mk ..) _ _ (.mk ..) _ _ _ (.mk ..) _ (.mk ..) _ _ (.mk ..) _ (.mk ..) _ _ _ _ _ _ (.mk ..) (.mk ..) (.mk ..) (.mk ..) (.mk ..) (.mk ..) (.mk ..) (.mk ..) (.mk ..) (.mk ..) (.mk ..) (.mk ..) (.mk ..) (.mk ..) (.mk ..) (.mk ..) (.mk ..) (.mk ..) (.mk ..) (.mk ..) (.mk ..) (.mk ..) (.mk ..) (.mk ..) (.mk ..) (.mk ..) (.mk ..) (.mk ..) (.mk ..) (.mk ..) (.mk ..) (.mk ..) (.mk ..) (.mk ..) (.mk ..) (.mk ..) (.mk ..) (.mk ..) (.mk ..) (.mk ..) (.mk ..) (.mk ..) (.mk ..) (.mk ..) (.mk ..) (.mk ..) (.mk ..) (.mk ..) (.mk ..) (.mk ..) (.mk ..) (.mk ..) (.mk ..) (.mk ..) (.mk ..) (.mk ..) (.mk ..) (.mk ..) (.mk ..) (.mk ..) (.mk ..) (.mk ..) (.mk ..) (.mk ..) (.mk ..) (.mk ..) (.mk ..) (.mk ..) (.mk ..) (.mk ..) (.mk ..) (.mk ..) (.mk ..) (.mk ..) (.mk ..) (.mk ..) (.mk ..) (.mk ..) (.mk ..) (.mk ..) (.mk ..) (.mk ..) (.mk ..) (.mk ..) (.mk ..) (.mk ..) (.mk ..) (.mk ..) (.mk ..) (.mk ..) (.mk ..) (.mk ..) (.mk ..) (.mk ..) (.mk ..) (.mk ..) (.mk ..) (.mk ..) (.mk ..) (.mk ..) _ _ _ _ _ _ _ _ _ _ _ _ _ (.mk ..) _ _ _ _ _ _ (.mk ..))
  all_goals try first|k_is|k_exc|kts_exm|kernel_rfl
end InkHd
namespace cO
open Spec Rows L2
section
variable {X:Cx}
def dB:j8 X (.builtin "isinstance") (λxs H Q=>∃ x T t b,xs=[x,.ty T]/\jT X.K H x t/\kitOne X.K t (.type T)=⇑b/\Q (.bl b) H):=by
 intro ak s σ H xs us Q I r h;let⟨x,T,t,b,rfl,ty,e,q⟩:=h;let⟨u,v,rfl,rx,rv⟩:=r.two;cases (show v=Value.type T from rv);exact K5 I rx ty e λtk=>⟨.bl b,H,I.tok tk,rfl,q⟩
theorem nV{x:Str}{T:String}(hg:Gl X x)(hm:X.mg x=none)(hv:bootBuiltins x=⇑(.type T))(hn:x≠"__name__":=by decide)(hd:(x == ("__debug__":Str))=false:=by decide):PE X (.Name x pos) (tC (.ty T)) :=
 Qy hg hm hv rfl hn hd
end
theorem QW{X:Cx}{σ:L2.St}{H:Hp}{s:Shared}{h':Heap}{t':Nat}{ch:List Addr}(I:Inv X ak σ H s)(k:∀ b o,b∉ch->s.heap.get? b=⇑o->h'.get? b=⇑o)
  (hf:∀ b∈ch,oO X ak H b):Inv X ak σ H { s with heap:=h',toks:=t' }:=by
 have TN:∀ b u,H b=⇑u->b∉ch:=λb u e z=>by rw[(hf b z).1]at e;cases e
 refine I.step (g':=s.gens) (d':=s.drawn) (ch:=ch) (λb hb=>?_) (λb o _ _ hc e _=>k b o hc e) (λb o _ _ hc e _=>⟨o.slots,k b o hc e⟩) (λ_ _ _ _ n=>n) (λb o hc e=>⟨o,k b o hc e⟩) (λ_ _ e=>e) (λ_ _ _ e=>e) (λb ps e=>⟨#[],by rw[e];simp⟩) (λm hm=>?_) (λb u e=>?_) I.bare
 ·let⟨_,f1,_,f3,f4,f5⟩:=hf b hb;exact⟨f3,f1,f4,f5⟩
 ·let⟨o,es,ep,ho,r⟩:=hm;exact⟨o,es,ep,k _ o (λz=>(hf _ z).2.1 rfl) ho,r⟩
 ·refine (I.hok b u e).stay (λc v hc q=>k c v ?_ q) (λ_ q=>q) λ_ _ q=>q;rcases hc with z|z
  ·rw[z];exact TN b u e
  ·exact TN c _ z
theorem Zd{X:Cx}{σ:L2.St}{H:Hp}{s:Shared}{h':Heap}{t':Nat}{ch:List Addr}{p:Addr}{xs:List V}{us:List Value}(I:Inv X ak σ H s)(k:∀ b o,b∉ch->s.heap.get? b=⇑o->h'.get? b=⇑o)
  (hf:∀ b∈ch,oO X ak H b) (hp:s.heap.objs.size<=p) (hz:↑xs<=sizeLine) (rv:b8 xs us) (ht:IsTup h' p us.toArray):Inv X ak σ (aM H p (.tup xs)) { s with heap:=h',toks:=t' }:=by
 have hn:H p=none:=I.hok.fresh hp;have TN:∀ b u,H b=⇑u->b∉ch:=λb u e z=>by rw[(hf b z).1]at e;cases e
 have nep:∀ b o,s.heap.get? b=⇑o->b≠p:=λb o e z=>by subst z;exact absurd (oG (Heap.lt_size e) hp) (Nat.lt_irrefl _)
 refine I.step (g':=s.gens) (d':=s.drawn) (ch:=ch) (λb hb=>?_) (λb o _ _ hc e _=>k b o hc e) (λb o _ _ hc e _=>⟨o.slots,k b o hc e⟩) (λb o _ e n=>by rw[aG (nep b o e)];exact n) (λb o hc e=>⟨o,k b o hc e⟩) (λb ys e=>by rw[aG (az e hn)];exact e) (λb _ _ e=>by rw[aG (az e hn)];exact e) (λb ps e=>⟨#[],by rw[aG (az e hn),e];simp⟩) (λm hm=>?_) (λb u e=>?_) I.bare
 ·let⟨_,f1,_,f3,f4,f5⟩:=hf b hb;exact⟨f3,f1,f4,f5⟩
 ·let⟨o,es,ep,ho,r⟩:=hm;exact⟨o,es,ep,k _ o (λz=>(hf _ z).2.1 rfl) ho,r⟩
 ·by_cases hb:b=p
  ·subst hb;rw[ah]at e;cases e;exact⟨hz,us,rv,ht⟩
  ·rw[aG hb]at e;refine (I.hok b u e).stay (λc v hc q=>k c v ?_ q) (λc q=>by rw[aG (az q hn)];exact q) λc ys q=>by rw[aG (az q hn)];exact q
   rcases hc with z|z
   ·rw[z];exact TN b u e
   ·exact TN c _ z
def G2(k:Bool)(h:Heap)(i a:Addr)(n:Nat):Prop:=match k with
 | true=>h.IsListIter i a n
 | false=>h.IsTupleIter i a n
def AQ(k:Bool)(h:Heap)(a:Addr)(xs:Array Value):Prop:=match k with
 | true=>h.IsList a xs
 | false=>h.IsTuple a xs
def G2.at{k:Bool}{h h':Heap}{i a:Addr}{n:Nat}(x:G2 k h i a n)(e:∀ o,h.get? i=⇑o->h'.get? i=⇑o):G2 k h' i a n:=by
 cases k
 ·let⟨o,ho,r⟩:=x;exact⟨o,e o ho,r⟩
 ·let⟨o,ho,r⟩:=x;exact⟨o,e o ho,r⟩
def AQ.at{k:Bool}{h h':Heap}{a:Addr}{xs:Array Value}(x:AQ k h a xs)(e:∀ o,h.get? a=⇑o->h'.get? a=⇑o):AQ k h' a xs:=by
 cases k
 ·let⟨o,ho,r⟩:=x;exact⟨o,e o ho,r⟩
 ·let⟨o,ho,r⟩:=x;exact⟨o,e o ho,r⟩
def G2.obj{k:Bool}{h:Heap}{i a:Addr}{n:Nat}(x:G2 k h i a n):∃ o,h.get? i=⇑o/\∀ v,o.data≠.cell v:=by
 cases k
 ·let⟨o,ho,_,d⟩:=x;exact⟨o,ho,λv z=>by rw[d]at z;cases z⟩
 ·let⟨o,ho,_,d⟩:=x;exact⟨o,ho,λv z=>by rw[d]at z;cases z⟩
section
variable {prog:Program} {w:World} {A:Around} {E:Value->Shared->Prop} {s:Shared}
theorem HQ{it t:Addr}{i:Nat}{items:Array Value}{x:Value}{Q:Value->Shared->Prop}(uh:s.heap.IsTupleIter it t i)(ht:s.heap.IsTuple t items)(hx:items[i]?=⇑x)
  (hQ:∀ h',h'.IsTupleIter it t (i+1)->Heap.SameBut it s.heap h'->Q x { s with heap:=h' }):wpAny (model prog w) A (Builtin.SmallTypes.nextOf ↥it) Q E s:=by
 let⟨o,ho,hc,hd⟩:=id uh;let⟨ol,hol,_,nl,QX⟩:=ht;unfold Builtin.SmallTypes.nextOf;refine wpAny_bind (wpAny_callSpecial?_slot (name:=Str.ofString "__next__") uh.typeIs F.slot_tuple_iterator_next (wpAny_call_entry F.slot_tuple_iterator_next uh.typeIs F.entry_tuple_iterator_next ?_ (F.args_tuple_iterator_next_1 _)));show wpAny _ _ (field ↥it 0 >>= _) _ _ s;refine wpAny_bind (wpAny_field ho hd (x:=↥t) rfl ?_);show wpAny _ _ (if (Value.ref t == Value.none)=true then _ else _) _ _ s;rw[if_neg (show ¬ ((Value.ref t == Value.none)=true) from gE)];show wpAny _ _ (field ↥it 1 >>= _) _ _ s;refine wpAny_bind (wpAny_field ho hd (x:=.int i 0) rfl ?_);show wpAny _ _ (seqItems? ↥t >>= _) _ _ s;refine wpAny_bind (wpAny_seqItems hol QX ?_);simp only[Int.toNat_natCast,hx];refine wpAny_bind (wpAny_setField ho hd (by simp) (wpAny_pure ⟨x,rfl,wpAny_pure (hQ _ ?_ (Heap.SameBut.update ..))⟩));exists _,Heap.get?_update_self _ ho (Obj.isFreed_of_fields (Obj.data_mapFields hd _)),(Obj.cls_mapFields ..).trans hc;rw[Obj.data_mapFields hd];simp[rawInt]
theorem Lf{it t:Addr}{i:Nat}{items:Array Value}{Q:Value->Shared->Prop}(hh:A.handled=none)(uh:s.heap.IsTupleIter it t i)(ht:s.heap.IsTuple t items)(hx:items[i]?=none)
  (hE:∀ h' e,Heap.ExtBut it s.heap h'->(∃ o,h'.get? e=⇑o/\o.cls=.type "StopIteration")->E ↥e { s with heap:=h' }):wpAny (model prog w) A (Builtin.SmallTypes.nextOf ↥it) Q E s:=by
 let⟨o,ho,hc,hd⟩:=id uh;let⟨ol,hol,_,nl,QX⟩:=ht;unfold Builtin.SmallTypes.nextOf;refine wpAny_bind (wpAny_callSpecial?_slot (name:=Str.ofString "__next__") uh.typeIs F.slot_tuple_iterator_next (wpAny_call_entry F.slot_tuple_iterator_next uh.typeIs F.entry_tuple_iterator_next ?_ (F.args_tuple_iterator_next_1 _)));show wpAny _ _ (field ↥it 0 >>= _) _ _ s;refine wpAny_bind (wpAny_field ho hd (x:=↥t) rfl ?_);show wpAny _ _ (if (Value.ref t == Value.none)=true then _ else _) _ _ s;rw[if_neg (show ¬ ((Value.ref t == Value.none)=true) from gE)];show wpAny _ _ (field ↥it 1 >>= _) _ _ s;refine wpAny_bind (wpAny_field ho hd (x:=.int i 0) rfl ?_);show wpAny _ _ (seqItems? ↥t >>= _) _ _ s;refine wpAny_bind (wpAny_seqItems hol QX ?_);simp only[Int.toNat_natCast,hx];refine wpAny_bind (wpAny_rule (wpAny_bind (wpAny_setField ho hd (by simp) ?_)));show wpAny _ _ (newExc (.type "StopIteration") [] >>= _) _ _ _;refine wpAny_bind ?_;simp only[newExc,newTuple];refine wpAny_bind (wpAny_newObj_type ?_ (by size_fits))
 refine wpAny_bind (m:=firstArgMember _ _) (wpAny_of_eq (a:=Value.none) (by first|rfl|(simp only[firstArgMember];rfl)) ?_)
 refine wpAny_newObj_type ?_ (by size_fits);simp only[raiseNew];refine wpAny_bind (wpAny_handled ?_)
 first|rw[show A.in1.handled=none from hh]|rw[hh]
 refine wpAny_bind (wpAny_pure (wpAny_throw ?_));exact hE _ _ (((Heap.SameBut.update ..).extBut.push _).push _) ⟨_,Heap.get?_push_size _ rfl,rfl⟩
theorem um{k:Bool}{it t:Addr}{i:Nat}{items:Array Value}{x:Value}{Q:Value->Shared->Prop}(uh:G2 k s.heap it t i)(ht:AQ k s.heap t items)(hx:items[i]?=⇑x)
  (hQ:∀ h',G2 k h' it t (i+1)->Heap.SameBut it s.heap h'->Q x { s with heap:=h' }):wpAny (model prog w) A (Builtin.SmallTypes.nextOf ↥it) Q E s:=by
 cases k
 ·exact HQ uh ht hx hQ
 ·exact wpAny_nextOf_list_item uh ht hx hQ
theorem BV{k:Bool}{it t:Addr}{i:Nat}{items:Array Value}{Q:Value->Shared->Prop}(hh:A.handled=none)(uh:G2 k s.heap it t i)(ht:AQ k s.heap t items)(hx:items[i]?=none)
  (hE:∀ h' e,Heap.ExtBut it s.heap h'->(∃ o,h'.get? e=⇑o/\o.cls=.type "StopIteration")->E ↥e { s with heap:=h' }):wpAny (model prog w) A (Builtin.SmallTypes.nextOf ↥it) Q E s:=by
 cases k
 ·exact Lf hh uh ht hx hE
 ·exact wpAny_nextOf_list_end hh uh ht hx hE
abbrev BW(k:Bool)(l:Addr):Obj:={ cls:=.type (if k then "list_iterator" else "tuple_iterator"),data:=.fields #[↥l,.int 0 0] }
def T4{k:Bool}{l:Addr}{xs:Array Value}{Q:Value->Shared->Prop}(h:AQ k s.heap l xs)(hQ:Q ↥s.heap.objs.size { s with heap:=s.heap.push (BW k l) }):wpAny (model prog w) A (pyIter ↥l) Q E s:=by
 cases k
 ·exact wpAny_pyIter_tuple h hQ
 ·exact wpAny_pyIter_list h hQ
structure BX(k:Bool)(h:Heap)(z TI TO i1 i2 l1 l2:Addr)(n:Nat):Prop where
 z:IsZip h z TI TO .none
 ti:IsPair h TI ↥i1 ↥i2
 to:∃ a b,IsPair h TO a b
 i1:G2 k h i1 l1 n
 i2:G2 k h i2 l2 n
theorem Lg{k:Bool}{z TI TO i1 i2 l1 l2:Addr}{n:Nat}{xs ys:Array Value}{x y:Value}{Q:Value->Shared->Prop}(D:ZipApart z TI TO i1 i2 l1 l2)(st:BX k s.heap z TI TO i1 i2 l1 l2 n)
  (HR:AQ k s.heap l1 xs) (A0:AQ k s.heap l2 ys) (hx:xs[n]?=⇑x) (hy:ys[n]?=⇑y)
  (hQ:∀ h',IsZip h' z TI TO (rawInt s.heap.objs.size)->IsPair h' TO x y->G2 k h' i1 l1 (n+1)->G2 k h' i2 l2 (n+1)->IsPair h' s.heap.objs.size x y->
   (∀ c o,c≠z->c≠TO->c≠i1->c≠i2->s.heap.get? c=⇑o->h'.get? c=⇑o)->Q ↥s.heap.objs.size { s with heap:=h' }) :
  wpAny (model prog w) A (Builtin.«zip.__next__» ⟨[↥z],[]⟩) (λnO s'=>∃ v,nO=.done (.ret v)/\Q v s') E s:=by
 let⟨hz,hTI,⟨a,b,hTO⟩,h1,h2⟩:=st;show wpAny _ _ (field ↥z 2 >>= _) _ _ _;refine wpAny_bind (wpAny_field hz rfl (x:=.bool false) rfl ?_);show wpAny _ _ (field ↥z 3 >>= _) _ _ _;refine wpAny_bind (wpAny_field hz rfl (x:=↥TI) rfl (wpAny_bind (wpAny_seqItems hTI rfl ?_)));show wpAny _ _ (Builtin.SmallTypes.ownedTupleIsFree ↥z >>= _) _ _ _;refine wpAny_bind ?_;unfold Builtin.SmallTypes.ownedTupleIsFree;refine wpAny_bind (wpAny_field hz rfl (x:=.none) rfl (wpAny_pure ?_));simp only[if_true];refine wpAny_bind (wpAny_rule (wpAny_bind (wpAny_field hz rfl (x:=↥TO) rfl (wpAny_bind (wpAny_setField_rec hz (by simp) λg1 z1 c1=>?_)))))
 replace z1:IsZip g1 z TI TO .ellipsis:=z1
 refine wpAny_bind ?_;simp only[List.zipIdx_cons,List.zipIdx_nil,List.forIn_cons,List.forIn_nil];refine wpAny_bind (wpAny_bind (wpAny_onRaise ?_));show wpAny _ _ (Builtin.SmallTypes.nextOf ↥i1 >>= _) _ _ _;refine wpAny_bind (um (h1.at λo e=>c1.extBut _ _ D.i1z e) (HR.at λo e=>c1.extBut _ _ D.l1z e) hx λg2 h12 c2=>wpAny_pure ?_);have o2:IsPair g2 TO a b:=c2.extBut _ _ D.TOi1 (c1.extBut _ _ D.TOz hTO);refine wpAny_bind (wpAny_seqItems o2 rfl (wpAny_bind (wpAny_updateSeq_pair o2 λg3 o3 c3=>?_)))
 replace o3:IsPair g3 TO x b:=o3
 refine wpAny_bind (wpAny_letGo (wpAny_pure (wpAny_bind (wpAny_bind (wpAny_onRaise ?_)))));show wpAny _ _ (Builtin.SmallTypes.nextOf ↥i2 >>= _) _ _ _;refine wpAny_bind (um (((h2.at λo e=>c1.extBut _ _ D.i2z e).at λo e=>c2.extBut _ _ D.i12.symm e).at λo e=>c3.extBut _ _ D.TOi2.symm e) (((A0.at λo e=>c1.extBut _ _ D.l2z e).at λo e=>c2.extBut _ _ D.l2i1 e).at λo e=>c3.extBut _ _ D.l2TO e) hy λg4 h24 c4=>wpAny_pure ?_);have o4:IsPair g4 TO x b:=c4.extBut _ _ D.TOi2 o3;refine wpAny_bind (wpAny_seqItems o4 rfl (wpAny_bind (wpAny_updateSeq_pair o4 λg5 o5 c5=>?_)))
 replace o5:IsPair g5 TO x y:=o5
 refine wpAny_bind (wpAny_letGo (wpAny_pure (wpAny_pure (wpAny_bind (wpAny_seqItems o5 rfl (wpAny_bind (wpAny_newTuple ?_)))))));have sz:g5.objs.size=s.heap.objs.size:=by rw[c5.1,c4.1,c3.1,c2.1,c1.1]
 have z5:IsZip g5 z TI TO .ellipsis:=c5.extBut _ _ D.TOz.symm (c4.extBut _ _ D.i2z.symm (c3.extBut _ _ D.TOz.symm (c2.extBut _ _ D.i1z.symm z1)));have k5:∀ c o,c≠z->c≠TO->c≠i1->c≠i2->s.heap.get? c=⇑o->g5.get? c=⇑o:=λc o n1 n2 n3 n4 e=>c5.extBut _ _ n2 (c4.extBut _ _ n4 (c3.extBut _ _ n2 (c2.extBut _ _ n3 (c1.extBut _ _ n1 e))));have h15:G2 k g5 i1 l1 (n+1):=((h12.at λo e=>c3.extBut _ _ D.TOi1.symm e).at λo e=>c4.extBut _ _ D.i12 e).at λo e=>c5.extBut _ _ D.TOi1.symm e;have h25:G2 k g5 i2 l2 (n+1):=h24.at λo e=>c5.extBut _ _ D.TOi2.symm e;have zlt:z<g5.objs.size:=Heap.lt_size z5;show wpAny _ _ (Builtin.SmallTypes.ownedTupleHandOut ↥z ↥g5.objs.size >>= _) _ _ _;refine wpAny_bind ?_;unfold Builtin.SmallTypes.ownedTupleHandOut;have z6:IsZip (g5.push { cls:=.type "tuple",data:=.seq #[x,y] }) z TI TO .ellipsis:=Heap.get?_push_of_some _ z5;refine wpAny_bind (wpAny_setField_rec z6 (by simp) λg7 z7 c7=>?_)
 replace z7:IsZip g7 z TI TO (rawInt g5.objs.size):=z7
 refine wpAny_setField_rec z7 (by simp) λg8 z8 c8=>?_
 replace z8:IsZip g8 z TI TO (rawInt g5.objs.size):=z8
 have up:∀ c o,c≠z->g5.get? c=⇑o->g8.get? c=⇑o:=λc o n1 e=>c8.extBut _ _ n1 (c7.extBut _ _ n1 (Heap.get?_push_of_some _ e));have t8:IsPair g8 g5.objs.size x y:=c8.extBut _ _ (Nat.ne_of_gt zlt) (c7.extBut _ _ (Nat.ne_of_gt zlt) (Heap.get?_push_size _ rfl));rw[sz]at z8 t8;refine wpAny_pure ⟨Y,?_⟩;show Q ↥g5.objs.size _;rw[sz];exact hQ g8 z8 (up _ _ D.TOz o5) (h15.at λo e=>up _ o D.i1z e) (h25.at λo e=>up _ o D.i2z e) t8 λc o n1 n2 n3 n4 e=>up c o n1 (k5 c o n1 n2 n3 n4 e)
theorem NP{k:Bool}{z TI TO i1 i2 l1 l2:Addr}{n:Nat}{xs ys:Array Value}{Q:Fin->Shared->Prop}(hh:A.handled=none)(D:ZipApart z TI TO i1 i2 l1 l2)(st:BX k s.heap z TI TO i1 i2 l1 l2 n)
  (HR:AQ k s.heap l1 xs) (A0:AQ k s.heap l2 ys) (Vp:xs[n]?=none\/ys[n]?=none)
  (hE:∀ h' e,(∀ c o,c≠z->c≠TO->c≠i1->c≠i2->s.heap.get? c=⇑o->h'.get? c=⇑o)->(∃ o,h'.get? e=⇑o/\o.cls=.type "StopIteration")->E ↥e { s with heap:=h' }) :
  wpAny (model prog w) A (Builtin.«zip.__next__» ⟨[↥z],[]⟩) Q E s:=by
 let⟨hz,hTI,⟨a,b,hTO⟩,h1,h2⟩:=st;show wpAny _ _ (field ↥z 2 >>= _) _ _ _;refine wpAny_bind (wpAny_field hz rfl (x:=.bool false) rfl ?_);show wpAny _ _ (field ↥z 3 >>= _) _ _ _;refine wpAny_bind (wpAny_field hz rfl (x:=↥TI) rfl (wpAny_bind (wpAny_seqItems hTI rfl ?_)));show wpAny _ _ (Builtin.SmallTypes.ownedTupleIsFree ↥z >>= _) _ _ _;refine wpAny_bind ?_;unfold Builtin.SmallTypes.ownedTupleIsFree;refine wpAny_bind (wpAny_field hz rfl (x:=.none) rfl (wpAny_pure ?_));simp only[if_true];refine wpAny_bind (wpAny_rule (wpAny_bind (wpAny_field hz rfl (x:=↥TO) rfl (wpAny_bind (wpAny_setField_rec hz (by simp) λg1 z1 c1=>?_)))))
 replace z1:IsZip g1 z TI TO .ellipsis:=z1
 refine wpAny_bind ?_;simp only[List.zipIdx_cons,List.zipIdx_nil,List.forIn_cons,List.forIn_nil];refine wpAny_bind (wpAny_bind (wpAny_onRaise ?_));show wpAny _ _ (Builtin.SmallTypes.nextOf ↥i1 >>= _) _ _ _
 cases hx:xs[n]? with
 | none =>
  refine wpAny_bind (BV hh (h1.at λo e=>c1.extBut _ _ D.i1z e) (HR.at λo e=>c1.extBut _ _ D.l1z e) hx λg2 e c2 he=>?_);let⟨oe,Vq,hce⟩:=he;have z2:IsZip g2 z TI TO .ellipsis:=c2 _ _ D.i1z.symm z1;have hez:e≠z:=λx=>by subst x;rw[z2]at Vq;cases Vq;simp at hce
  exact wpAny_setField_rec z2 (by simp) λg3 _ c3=>hE g3 e (λc o n1 _ n3 _ x=>c3.extBut _ _ n1 (c2 _ _ n3 (c1.extBut _ _ n1 x))) ⟨oe,c3.extBut _ _ hez Vq,hce⟩
 | some x =>
  have hy:ys[n]?=none:=by rcases Vp with h|h;(rw[hx]at h;cases h);exact h
  refine wpAny_bind (um (h1.at λo e=>c1.extBut _ _ D.i1z e) (HR.at λo e=>c1.extBut _ _ D.l1z e) hx λg2 h12 c2=>wpAny_pure ?_);have o2:IsPair g2 TO a b:=c2.extBut _ _ D.TOi1 (c1.extBut _ _ D.TOz hTO);refine wpAny_bind (wpAny_seqItems o2 rfl (wpAny_bind (wpAny_updateSeq_pair o2 λg3 o3 c3=>?_)));refine wpAny_bind (wpAny_letGo (wpAny_pure (wpAny_bind (wpAny_bind (wpAny_onRaise ?_)))));show wpAny _ _ (Builtin.SmallTypes.nextOf ↥i2 >>= _) _ _ _;refine wpAny_bind (BV hh (((h2.at λo e=>c1.extBut _ _ D.i2z e).at λo e=>c2.extBut _ _ D.i12.symm e).at λo e=>c3.extBut _ _ D.TOi2.symm e) (((A0.at λo e=>c1.extBut _ _ D.l2z e).at λo e=>c2.extBut _ _ D.l2i1 e).at λo e=>c3.extBut _ _ D.l2TO e) hy λg4 e c4 he=>?_);let⟨oe,Vq,hce⟩:=he;have z4:IsZip g4 z TI TO .ellipsis:=c4 _ _ D.i2z.symm (c3.extBut _ _ D.TOz.symm (c2.extBut _ _ D.i1z.symm z1));have hez:e≠z:=λx=>by subst x;rw[z4]at Vq;cases Vq;simp at hce
  exact wpAny_setField_rec z4 (by simp) λg5 _ c5=>hE g5 e (λc o n1 n2 n3 n4 x=>c5.extBut _ _ n1 (c4 _ _ n4 (c3.extBut _ _ n2 (c2.extBut _ _ n3 (c1.extBut _ _ n1 x))))) ⟨oe,c5.extBut _ _ hez Vq,hce⟩
theorem HS{k:Bool}{z TI TO i1 i2 l1 l2:Addr}{n:Nat}{xs ys:Array Value}{x y:Value}{Q:Option Value->Shared->Prop}(D:ZipApart z TI TO i1 i2 l1 l2)(st:BX k s.heap z TI TO i1 i2 l1 l2 n)
  (HR:AQ k s.heap l1 xs) (A0:AQ k s.heap l2 ys) (hx:xs[n]?=⇑x) (hy:ys[n]?=⇑y)
  (hQ:∀ h',IsZip h' z TI TO (rawInt s.heap.objs.size)->IsPair h' TO x y->G2 k h' i1 l1 (n+1)->G2 k h' i2 l2 (n+1)->IsPair h' s.heap.objs.size x y->
   (∀ c o,c≠z->c≠TO->c≠i1->c≠i2->s.heap.get? c=⇑o->h'.get? c=⇑o)->Q (⇑↥s.heap.objs.size) { s with heap:=h' }):wpAny (model prog w) A (pyNext ↥z) Q E s:=by
 have hT:s.TypeIs ↥z "zip":=⟨_,st.z,rfl⟩;unfold pyNext;exact wpAny_bind (wpAny_attempt (wpAny_callSpecial?_slot (name:=Str.ofString "__next__") hT F.slot_zip_next (wpAny_call_entry F.slot_zip_next hT F.entry_zip_next (Lg D st HR A0 hx hy λh' a1 a2 a3 a4 a5 a7=>wpAny_pure (hQ h' a1 a2 a3 a4 a5 a7)) (F.args_zip_next_1 _))))
theorem Lh{k:Bool}{z TI TO i1 i2 l1 l2:Addr}{n:Nat}{xs ys:Array Value}{Q:Option Value->Shared->Prop}(hh:A.handled=none)(D:ZipApart z TI TO i1 i2 l1 l2)(st:BX k s.heap z TI TO i1 i2 l1 l2 n)
  (HR:AQ k s.heap l1 xs) (A0:AQ k s.heap l2 ys) (Vp:xs[n]?=none\/ys[n]?=none)
  (hQ:∀ h',(∀ c o,c≠z->c≠TO->c≠i1->c≠i2->s.heap.get? c=⇑o->h'.get? c=⇑o)->Q none { s with heap:=h' }):wpAny (model prog w) A (pyNext ↥z) Q E s:=by
 have hT:s.TypeIs ↥z "zip":=⟨_,st.z,rfl⟩;unfold pyNext;refine wpAny_bind (wpAny_attempt (wpAny_callSpecial?_slot (name:=Str.ofString "__next__") hT F.slot_zip_next (wpAny_call_entry F.slot_zip_next hT F.entry_zip_next (NP hh D st HR A0 Vp λh' e hk he=>?_) (F.args_zip_next_1 _))));let⟨o,ho,hc⟩:=he;exact wpAny_bind (wpAny_isInstance (T:="StopIteration") (b:=true) ⟨o,ho,hc⟩ isSubtype_stop (wpAny_pure (hQ _ hk)))
end
abbrev zH1(k:Bool)(h:Heap)(l1:Addr):Heap:=h.push (BW k l1)
abbrev zH2(k:Bool)(h:Heap)(l1 l2:Addr):Heap:=(zH1 k h l1).push (BW k l2)
abbrev zH3(k:Bool)(h:Heap)(l1 l2:Addr):Heap:=(zH2 k h l1 l2).push { cls:=.type "tuple",data:=.seq #[↥h.objs.size,.ref (zH1 k h l1).objs.size] }
abbrev zH4(k:Bool)(h:Heap)(l1 l2:Addr):Heap:=(zH3 k h l1 l2).push { cls:=.type "tuple",data:=.seq #[.none,.none] }
abbrev XX(k:Bool)(h:Heap)(l1 l2:Addr):Heap:=(zH4 k h l1 l2).push { cls:=.type "zip",data:=.fields #[.none,.bool false,.bool false,.ref (zH2 k h l1 l2).objs.size,.ref (zH3 k h l1 l2).objs.size] }
theorem HU(k:Bool)(l1 l2:Addr)(xs ys:Array Value) :
  Meets (Builtin.«zip.__new__» ⟨[.type "zip",↥l1,↥l2],[]⟩) (λ_ R s=>AQ k s.heap l1 xs/\AQ k s.heap l2 ys/\R (.ok (.ret (.ref (zH4 k s.heap l1 l2).objs.size))) { s with heap:=XX k s.heap l1 l2 }) :=
 .of_wp λprog w A R s h=>by
  let⟨hp,g,d,tk,os⟩:=s;let⟨HR,A0,h⟩:=h;have hsub:=sub_zip;have hL1:AQ k (Shared.heap ⟨hp,g,d,tk,os⟩) l1 xs:=HR;have hL2:AQ k (Shared.heap ⟨hp.push (BW k l1),g,d,tk,os⟩) l2 ys:=A0.at λo e=>Heap.get?_push_of_some _ e
  wp_walk using T4 hL1,T4 hL2
  exact⟨Y,h⟩
section
variable {prog:Program} {w:World} {A:Around} {E:Value->Shared->Prop} {s:Shared}
theorem Li{k:Bool}{l1 l2:Addr}{xs ys:Array Value}{Q:Value->Shared->Prop}(HR:AQ k s.heap l1 xs)(A0:AQ k s.heap l2 ys)
  (h:∀ h',BX k h' (s.heap.objs.size+4) (s.heap.objs.size+2) (s.heap.objs.size+3) s.heap.objs.size (s.heap.objs.size+1) l1 l2 0->(∀ c o,s.heap.get? c=⇑o->h'.get? c=⇑o)->Q (.ref (s.heap.objs.size+4)) { s with heap:=h' }) :
  wpAny (model prog w) A (call (.type "zip") [↥l1,↥l2]) Q E s:=by
 refine callType_new F.called_zip (by decide) (F.typeCall_zip_2 _ _) (F.newCall_zip_2 _ _) (λobj=>F.args_object_init_3 obj _ _) F.entry_zip_new (HU k l1 l2 xs ys) ⟨HR,A0,?_⟩;have z1:(zH1 k s.heap l1).objs.size=s.heap.objs.size+1:=Heap.size_push ..;have z2:(zH2 k s.heap l1 l2).objs.size=s.heap.objs.size+2:=by rw[Heap.size_push,z1]
 have z3:(zH3 k s.heap l1 l2).objs.size=s.heap.objs.size+3:=by rw[Heap.size_push,z2]
 have z4:(zH4 k s.heap l1 l2).objs.size=s.heap.objs.size+4:=by rw[Heap.size_push,z3]
 have g5:(XX k s.heap l1 l2).get? (zH4 k s.heap l1 l2).objs.size=⇑_:=Heap.get?_push_size _ rfl;have g4:(XX k s.heap l1 l2).get? (zH3 k s.heap l1 l2).objs.size=⇑_:=Heap.get?_push_of_some _ (Heap.get?_push_size _ rfl);have g3:(XX k s.heap l1 l2).get? (zH2 k s.heap l1 l2).objs.size=⇑_:=Heap.get?_push_of_some _ (Heap.get?_push_of_some _ (Heap.get?_push_size _ rfl));have g2:(XX k s.heap l1 l2).get? (zH1 k s.heap l1).objs.size=⇑(BW k l2):=Heap.get?_push_of_some _ (Heap.get?_push_of_some _ (Heap.get?_push_of_some _ (Heap.get?_push_size _ rfl)));have g1:(XX k s.heap l1 l2).get? s.heap.objs.size=⇑(BW k l1):=Heap.get?_push_of_some _ (Heap.get?_push_of_some _ (Heap.get?_push_of_some _ (Heap.get?_push_of_some _ (Heap.get?_push_size _ rfl))));show _/\_;rw[z2,z3,z4]at g5;rw[z1,z2]at g3;rw[z3]at g4;rw[z1]at g2;rw[z4];refine⟨⟨_,g5,rfl⟩,h _ ⟨g5,g3,⟨P,g4⟩,?_,?_⟩ λc o x=>Heap.get?_push_of_some _ (Heap.get?_push_of_some _ (Heap.get?_push_of_some _ (Heap.get?_push_of_some _ (Heap.get?_push_of_some _ x))))⟩
 ·cases k
  ·exact⟨_,g1,V⟩
  ·exact⟨_,g1,V⟩
 ·cases k
  ·exact⟨_,g2,V⟩
  ·exact⟨_,g2,V⟩
end
def JR(K:PySem.W.Frag)(k:Bool)(H:Hp)(a:Addr)(xs:List V):Prop:=match k with
 | true=>bC K H a xs
 | false=>gV K H a xs
def wD{X:Cx}{σ:L2.St}{H:Hp}{s:Shared}{k:Bool}{a:Addr}{xs:List V}(I:Inv X ak σ H s)(h:JR X.K k H a xs):∃ aP:List Value,b8 xs aP/\AQ k s.heap a aP.toArray/\↑xs<=sizeLine:=by
 cases k
 ·let⟨aP,r,p,z⟩:=I.tuple h;exact⟨aP,r,p,z⟩
 ·let⟨aP,r,p,z⟩:=I.list h;exact⟨aP,r,p.isList,z⟩
def JS{X:Cx}{σ:L2.St}{H:Hp}{s:Shared}{k:Bool}{a:Addr}{xs ys:List V}(I:Inv X ak σ H s)(h:JR X.K k H a xs)(h':JR X.K k H a ys):xs=ys:=by
 cases k
 ·exact I.BE h h'
 ·exact I.EH h h'
def NQ{k:Bool}{h:Heap}{a:Addr}{xs:Array Value}(x:AQ k h a xs):a<h.objs.size:=by
 cases k
 ·let⟨o,ho,_⟩:=x;exact Heap.lt_size ho
 ·let⟨o,ho,_⟩:=x;exact Heap.lt_size ho
def Ze(K:PySem.W.Frag)(k:Bool)(a1 a2:Addr):It :=
 ⟨λi H=>∃ xs ys x y,JR K k H a1 xs/\JR K k H a2 ys/\xs[i]?=⇑x/\ys[i]?=⇑y,λi H v H'=>∃ p x y,H p=none/\v=↥p/\H'=aM H p (.tup [x,y])/\(∀ xs,JR K k H a1 xs->xs[i]?=⇑x)/\∀ ys,JR K k H a2 ys->ys[i]?=⇑y,λi H=>∃ xs ys,JR K k H a1 xs/\JR K k H a2 ys/\(↑xs<=i\/↑ys<=i)⟩
theorem NR{P:Program}{w:World}{K:PySem.W.Frag}{x1:Nat}{k:Bool}{z TI TO i1 i2 l1 l2:Addr}(D:ZipApart z TI TO i1 i2 l1 l2) :
  Hq P w K (.Tuple Vr x1 K0) (Ze K k l1 l2) [z,TI,TO,i1,i2] z (λi h=>BX k h z TI TO i1 i2 l1 l2 i) where
 mem:=by simp
 obj:=λi h st b hb=>by
  let⟨hz,hTI,⟨a,c,hTO⟩,h1,h2⟩:=st;simp only[List.mem_cons,List.not_mem_nil,or_false]at hb;rcases hb with rfl|rfl|rfl|rfl|rfl
  ·exact⟨_,hz,λv e=>by cases e⟩
  ·exact⟨_,hTI,λv e=>by cases e⟩
  ·exact⟨_,hTO,λv e=>by cases e⟩
  ·exact h1.obj
  ·exact h2.obj
 keep:=λi h h' st kk=>by
  let⟨hz,hTI,⟨a,c,hTO⟩,h1,h2⟩:=st;exact⟨kk z (by simp) _ hz,kk TI (by simp) _ hTI,⟨a,c,kk TO (by simp) _ hTO⟩,h1.at λo e=>kk i1 (by simp) o e,h2.at λo e=>kk i2 (by simp) o e⟩
 item:=by
  intro X hP hw hK hc i ak s σ H E I hf st hg;subst hP hw hK;let⟨xs,ys,x,y,q1,q2,e1,e2⟩:=hg;let⟨us,r1,p1,_⟩:=wD I q1;let⟨vs,r2,p2,_⟩:=wD I q2;let⟨u,eu,ru⟩:=r1.get e1;let⟨v,ev,rv⟩:=r2.get e2;refine HS (x:=u) (y:=v) D st p1 p2 (by simpa using eu) (by simpa using ev) λh' g1 g2 g3 g4 g5 g7=>?_;refine⟨Y,wpAny_letOwnedTupleGo_zip g1 λh2 hz2 c2=>?_⟩;have ne:∀ {b o},s.heap.get? b=⇑o->s.heap.objs.size≠b:=λe=>Nat.ne_of_gt (Heap.lt_size e)
  have k2:∀ b o,b∉[z,TI,TO,i1,i2]->s.heap.get? b=⇑o->h2.get? b=⇑o:=λb o hb e=>by
   simp only[List.mem_cons,List.not_mem_nil,or_false,not_or]at hb;exact c2.extBut _ _ hb.1 (g7 b o hb.1 hb.2.2.1 hb.2.2.2.1 hb.2.2.2.2 e)
  have I2:Inv X ak σ (aM H s.heap.objs.size (.tup [x,y])) { s with heap:=h2,toks:=s.toks } := Zd I k2 hf (fT _) (by show 2<=sizeLine;decide) (.cons ru (.cons rv .nil)) ⟨_,c2.extBut _ _ (ne st.z) g5,rfl,Y⟩;refine⟨↥s.heap.objs.size,_,I2,rfl,⟨_,x,y,I.hok.fresh (fT _),V,λxs' q=>?_,λys' q=>?_⟩,?_,λb hb=>?_⟩
  ·rw[JS I q q1];exact e1
  ·rw[JS I q q2];exact e2
  ·exact⟨hz2,c2.extBut _ _ D.TIz (g7 _ _ D.TIz D.TITO D.TIi1 D.TIi2 st.ti),⟨u,v,c2.extBut _ _ D.TOz g2⟩,g3.at λo e=>c2.extBut _ _ D.i1z e,g4.at λo e=>c2.extBut _ _ D.i2z e⟩
  ·have qz:∃ o,s.heap.get? b=⇑o:=by
    let⟨hz,hTI,⟨a,c,hTO⟩,h1,h2⟩:=st;simp only[List.mem_cons,List.not_mem_nil,or_false]at hb;rcases hb with rfl|rfl|rfl|rfl|rfl
    ·exact⟨_,hz⟩
    ·exact⟨_,hTI⟩
    ·exact⟨_,hTO⟩
    ·exact h1.obj.imp λ_ e=>e.1
    ·exact h2.obj.imp λ_ e=>e.1
   let⟨o,e⟩:=qz;rw[aG (ne e).symm];exact (hf b hb).1
 done:=by
  intro X hP hw hK hc i ak s σ H E I hf st hg;subst hP hw hK;let⟨xs,ys,q1,q2,e⟩:=hg;let⟨us,r1,p1,_⟩:=wD I q1;let⟨vs,r2,p2,_⟩:=wD I q2;have l1:=↑r1;have l2:=↑r2;refine Lh (I.ok.hd hc) D st p1 p2 (e.imp (λe=>by simp;lia) (λe=>by simp;lia)) λh' kk=>⟨rfl,QW (t':=s.toks) (ch:=[z,TI,TO,i1,i2]) I (λb o hb e=>?_) hf⟩;simp only[List.mem_cons,List.not_mem_nil,or_false,not_or]at hb;exact kk b o hb.1 hb.2.2.1 hb.2.2.2.1 hb.2.2.2.2 e
 self:=λ_ _ _ _ _ st h=>wpAny_pyIter_zip st.z h
def adL(K:PySem.W.Frag)(ta:TA):TI:=fun σ H R=>ta σ H λvs H1=>∃ k a1 a2 xs ys,vs=[↥a1,↥a2]/\JR K k H1 a1 xs/\JR K k H1 a2 ys/\R (Ze K k a1 a2) H1
theorem Vs{X:Cx}{x1:Nat}{a b:Expr}{ta:TA}{p:Pos}(hg:Gl X "zip")(hm:X.mg "zip"=none)(ha:PA X [a,b] ta)
  (hs:starEach [a,b] X.env=[(false,eval a X.env),(false,eval b X.env)]:=by rfl) (G1:starEach [b] X.env=[(false,eval b X.env)]:=by rfl):PI X (.Tuple Vr x1 K0) (.Call (.Name "zip" p) [a,b] [] pos) (adL X.K ta):=by
 intro ak s σ H R I h;refine Call_ (vZ I hg hm boot_zip (PyProof.Rows.callWith_type1 (cI (ha pos ak s σ H _ I h) λus s1 ⟨vs,H1,I1,r1,q1⟩=>?_) (by rw[hs,G1]) (by rw[G1];rfl)));let⟨k,a1,a2,xs,ys,e,q1,q2,q⟩:=q1;subst e;let⟨u1,u2,rfl,e1,e2⟩:=r1.two;cases (show u1=Value.ref a1 from e1);cases (show u2=Value.ref a2 from e2);let⟨us,rr1,p1,_⟩:=wD I1 q1;let⟨ws,rr2,p2,_⟩:=wD I1 q2;have b1:=NQ p1;have b2:=NQ p2;refine Li p1 p2 λh' st kk=>wpAny_pyIter_zip st.z ?_;have I2:Inv X ak σ H1 { s1 with heap:=h',toks:=s1.toks }:=I1.kept kk;refine⟨K,_,H1,rfl,I2,NR (zipApart_new b1 b2),st,λb hb=>?_,q⟩
 have hb':s1.heap.objs.size<=b:=by
  simp only[List.mem_cons,List.not_mem_nil,or_false]at hb;rcases hb with rfl|rfl|rfl|rfl|rfl
  ·exact Nat.le_add_right _ _
  ·exact Nat.le_add_right _ _
  ·exact Nat.le_add_right _ _
  ·exact fT _
  ·exact Nat.le_add_right _ _
 exact I1.KQ hb' (I1.hok.fresh hb')
theorem QY{K:PySem.W.Frag}{k:Bool}{a1:Addr}{xs ys:List V}{g:TG}{tb:TS}{D:Ends}{σ:L2.St}{H:Hp}(Pv:Nat->L2.St->Hp->Prop)(hn:↑xs=↑ys)(h0:Pv 0 σ H)
  (hl:∀ i σ H,i<=↑xs->Pv i σ H->JR K k H a1 xs/\JR K k H a2 ys)
  (hs:∀ i x y p σ H,xs[i]?=⇑x->ys[i]?=⇑y->H p=none->Pv i σ H->g ↥p σ (aM H p (.tup [x,y])) fun σ2 H2=>tb { D with nx:=Pv (i+1),ct:=Pv (i+1),bk:=D.nx } σ2 H2) (hd:∀ σ H,Pv ↑xs σ H->D.nx σ H) :
  ∃ W:Nat->Nat->L2.St->Hp->Prop,(∃ m,W 0 m σ H)/\∀ i m σ H,W i m σ H->
   ((Ze K k a1 a2).stop i H/\D.nx σ H)\/((Ze K k a1 a2).go i H/\∃ N:L2.St->Hp->Prop,(∀ σ' H',N σ' H'->∃ m',m'<m/\W (i+1) m' σ' H')/\∀ x H',(Ze K k a1 a2).M6 i H x H'->g x σ H' fun σ2 H2=>tb { D with nx:=N,ct:=N,bk:=D.nx } σ2 H2):=by
 refine⟨λi m σ H=>m=↑xs-i/\i<=↑xs/\Pv i σ H,⟨↑xs,by simp,Nat.zero_le _,h0⟩,?_⟩;rintro i m σ H ⟨rfl,hi,p⟩;let⟨q1,q2⟩:=hl i σ H hi p;by_cases qz:i<↑xs
 ·have adM:i<↑ys:=by lia
  refine .inr ⟨⟨xs,ys,xs[i],ys[i],q1,q2,by simp[qz],by simp[adM]⟩,Pv (i+1),fun σ' H' p'=>⟨↑xs-(i+1),Q,rfl,qz,p'⟩,λx H' y=>?_⟩;let⟨a,x',y',TR,rfl,rfl,e1,e2⟩:=y;exact hs i x' y' a σ _ (e1 xs q1) (e2 ys q2) TR p
 ·have e:i=↑xs:=by lia
  subst e;exact .inl ⟨⟨xs,ys,q1,q2,.inl (fT _)⟩,hd σ H p⟩
def BY(lo:Int)(n:Nat):List V:=(List.range n).map λi:Nat=>V.int (lo+i)
section
variable {X:Cx}
def EZ:j8 X (.type "range") (λxs H Q=>∃ i j:Int,xs=[.int i,.int j]/\∀ p,H p=none->Q ↥p (aM H p (.AV i j))):=by
 intro ak s σ H xs us Q I r h;let⟨i,j,rfl,q⟩:=h;let⟨u1,u2,rfl,⟨t,rfl⟩,⟨t',rfl⟩⟩:=r.two;refine call_range_2 ⟨↥s.heap.objs.size,_,I.laid (o:=.AV i j) (λb o e=>Heap.get?_push_of_some _ e) (fT _) ⟨t,t',s.toks,Heap.get?_push_size _ rfl⟩,rfl,q _ (I.hok.fresh (fT _))⟩
theorem sS(hc:X.calm=true):j8 X (.type "list") (λxs H Q=>∃ p i j,xs=[↥p]/\H p=⇑(.AV i j)/\(-(2^62)<=i/\i<2^62/\-(2^62)<=j/\j<2^62)/\(j-i).toNat<=sizeLine/\
  ∀ l,H l=none->Q ↥l (aM H l (.lst (BY i (j-i).toNat)))):=by
 intro ak s σ H xs us Q I r h;let⟨p,i,j,rfl,hp,⟨b1,b2,b3,b4⟩,hz,q⟩:=h;let⟨u,rfl,rx⟩:=r.one;cases (show u=Value.ref p from rx);let⟨t,u,v,e⟩:=(show cV X.prog X.w H s.heap p (.AV i j) from I.hok p _ hp)
 have e2:Builtin.Range.rangeSize i j 1=(((j-i).toNat:Nat):Int):=by rw[rangeSize_one];split <;> lia
 have hz':(j-i).toNat<=2^24:=by have:=sizeLine_eq;lia
 refine call_list_range (I.ok.hd hc) e (small_one b1 b2 b3 b4) e2 hz' λh' tk qq c' hk hS cK=>?_;refine⟨↥s.heap.objs.size,_,I.laid (o:=.lst (BY i (j-i).toNat)) (t':=tk) hk (fT _) ⟨?_,qq.toList,c',?_,by simpa using hS⟩,rfl,q _ (I.hok.fresh (fT _))⟩
 ·unfold BY;simpa using hz
 ·have hl:↑qq.toList=(j-i).toNat:=by simpa using cK.1
  have key:∀ (n:Nat) (us:List Value) (lo:Int),↑us=n->(∀ k v,us[k]?=⇑v->∃ t,v=Value.int (lo+(k:Nat)*1) t)->b8 ((List.range n).map λi:Nat=>V.int (lo+i)) us:=by
   intro n
   induction n with
   | zero=>intro us lo hl _;cases us with
    | nil=>exact .nil
    | cons=>simp at hl
   | succ n ih =>
    intro us lo hl hv
    cases us with
    | nil=>simp at hl
    | cons u us =>
     rw[List.range_succ_eq_map,jy,List.map_map];refine .cons ?_ ?_
     ·let⟨t,e⟩:=hv 0 u rfl;exact⟨t,by rw[e];simp⟩
     ·have:=ih us (lo+1) (by simpa using hl) λk v e=>by
       let⟨t,e'⟩:=hv (k+1) v (by simpa using e);exists t;rw[e'];have:lo+((k+1:Nat):Int)*1=lo+1+(k:Int)*1:=by lia
       rw[this]
      have e3:((λi:Nat=>V.int (lo+i)) ∘ Nat.succ)=λi:Nat=>V.int (lo+1+i):=by
       funext i;simp only[Function.comp,Nat.succ_eq_add_one];have:lo+((i+1:Nat):Int)=lo+1+(i:Int):=by lia
       rw[this]
      rw[e3];exact this
  exact key _ _ i hl λk v e=>cK.2 k v (by simpa using e)
end
section
variable {X:Cx}
def NS{j:Int}(h0:0<j)(h1:j<10^70):j.natAbs.log2<9000:=by
 have h:j.natAbs<2^9000:=Nat.lt_trans (show j.natAbs<10^70 by lia) nofun;exact (Nat.log2_lt ∅).mpr h
theorem zy:uJ X (binaryOp .FloorDiv) (rI (λ_ j=>0<j/\j<10^70) λi j=>.int (i / j)):=opI λi j _ _ _ _ _ hc q=>by
 have h1:(0:Int)<j:=hc.1;exact floordiv_int ∅ (by rw[Int.fdiv_eq_ediv_of_nonneg i ∅];exact q) (.inl (PyProof.noPylong_of_log2 (NS hc.1 hc.2)))
def E1(hc:X.calm=true):j8 X (.builtin "sum") (λxs H Q=>∃ (p:Addr) (ns:List Int),xs=[↥p]/\bC X.K H p (ns.map V.int)/\Q (.int ns.sum) H):=by
 intro ak s σ H xs us Q I r h;let⟨p,ns,rfl,hq,q⟩:=h;let⟨u,rfl,rx⟩:=r.one;cases (show u=Value.ref p from rx);let⟨aP,rv,pl,hz⟩:=I.list hq;have hi:IntsAre aP ns:=intsAre_of rv;have NC:AllInts aP.toArray:=hi.allInts;let⟨zs,ez⟩:=NC.items;have hl:=pl.isList;have es:(numsOf aP.toArray.toList).sum=ns.sum:=by rw[show aP.toArray.toList=aP from rfl,hi.numsOf]
 rw[ez]at hl es;rw[nums_intItems]at es;refine PySem.sum_intListG (I.ok.hd hc) hl λh' tk t' hk=>⟨.int ns.sum,H,I.kept hk,⟨t',?_⟩,q⟩;rw[preSum_eq,tK (by simp),es]
end
end cO
namespace gG
abbrev Row:=List (Int × Int)
def jk(t:Row)(s e:Int):Row :=
 match t.getLast? with
 | some p=>if p.2=s then t.dropLast++[(p.1,e)] else t++[(s,e)]
 | none=>t++[(s,e)]
def d7(t:Row)(p:Int × Int):Row:=if p.1=p.2 then t else jk t p.1 p.2
def cU(r:Row):Row:=r.foldl d7 []
def run(s:Int):Nat->List Int
 | 0=>[]
 | n+1=>s::run (s+1) n
def jH(p:Int × Int):List Int:=run p.1 (p.2-p.1).toNat
def bz(r:Row):List Int:=r.flatMap jH
def d9(ns:List Int):Row:=ns.foldl (λt n=>jk t n (n+1)) []
def gi(s:Int)(n:Nat):↑(run s n)=n:=by
 induction n generalizing s with
 | zero=>rfl
 | succ n ih=>simp[run,ih]
theorem lX(s e:Int):jk [] s e=[(s,e)]:=rfl
def lY(t:Row){q:Int × Int}{s:Int}{e:Int}(h:q.2=s):jk (t++[q]) s e=t++[(q.1,e)]:=by
 simp[jk,h]
def lZ(t:Row){q:Int × Int}{s:Int}{e:Int}(h:¬ q.2=s):jk (t++[q]) s e=t++[q]++[(s,e)]:=by
 simp[jk,h]
def Lj(t:Row)(a s e:Int):jk (t++[(a,s)]) s e=t++[(a,e)]:=by
 simp[jk]
def zz(t:Row)(a s:Int)(n:Nat):(run s n).foldl (λt n=>jk t n (n+1)) (t++[(a,s)])=t++[(a,s+n)]:=by
 induction n generalizing s with
 | zero=>simp[run]
 | succ n ih =>
  rw[run,m7,Lj,ih];have:s+1+(n:Int)=s+((n+1:Nat):Int):=by lia
  rw[this]
def NT(t:Row)(p:Int × Int)(h:p.1<=p.2):d7 t p=(jH p).foldl (λt n=>jk t n (n+1)) t:=by
 let⟨s,e⟩:=p;simp only at h;unfold d7 jH;by_cases he:s=e
 ·subst he;simp[run]
 ·obtain⟨n,hn⟩:∃ n:Nat,e=s+1+n:=⟨(e-s-1).toNat,Q⟩;subst hn;rw[if_neg he];have h2:((s,s+1+(n:Int)).2-(s,s+1+(n:Int)).1).toNat=n+1:=by simp only;lia
  rw[h2,run,m7];simp only;rcases qo t with rfl|⟨u,q,rfl⟩
  ·rw[lX,lX];exact (zz [] s (s+1) n).symm
  ·by_cases hq:q.2=s
   ·rw[m6,lY u hq,lY u hq,zz]
   ·rw[m6,lZ u hq,lZ u hq,zz]
theorem l5{α β γ:Type}(f:γ->β->γ)(g:α->List β):∀ (l:List α) (c:γ),(l.flatMap g).foldl f c=l.foldl (λc a=>(g a).foldl f c) c
 | [],_=>rfl
 | a::l,c=>by rw[kG,List.foldl_append,m7,l5 f g l]
def E2(r:Row)(h:∀ p∈r,p.1<=p.2):cU r=d9 (bz r):=by
 unfold cU d9 bz;rw[l5]
 have key:∀ (r:Row),(∀ p∈r,p.1<=p.2)->∀ t:Row,r.foldl d7 t=r.foldl (λc a=>(jH a).foldl (λt n=>jk t n (n+1)) c) t:=by
  intro r
  induction r with
  | nil=>intro _ t;rfl
  | cons p r ih =>
   intro h t;rw[m7,m7,NT t p (h p (tL ..))];exact ih (λq hq=>h q (oE _ hq)) _
 exact key r h []
def xW(t:Row)(s e:Int):↑(jk t s e)<=↑t+1:=by
 rcases qo t with rfl|⟨u,q,rfl⟩
 ·rw[lX];simp
 ·by_cases hq:q.2=s
  ·rw[m6,lY u hq];simp
  ·rw[m6,lZ u hq];simp
def foldl_take_succ{α β:Type}(f:β->α->β)(l:List α)(b:β)(i:Nat)(x:α)(h:l[i]?=⇑x):(l.take (i+1)).foldl f b=f ((l.take i).foldl f b) x:=by
 rw[List.take_add_one,h,List.foldl_append];rfl
end gG
namespace gG
def jP(r:Row):Int:=(r.map λp=>p.2-p.1).sum
theorem QZ:jP []=0:=rfl
def E3(p:Int × Int)(r:Row):jP (p::r)=(p.2-p.1)+jP r:=by simp[jP]
def NU(r:Row)(p:Int × Int):jP (r++[p])=jP r+(p.2-p.1):=by simp[jP]
def zA(r q:Row):jP (r++q)=jP r+jP q:=by simp[jP]
def take_snoc{α:Type}{l:List α}{i:Nat}{x:α}(h:l[i]?=⇑x):l.take (i+1)=l.take i++[x]:=by rw[List.take_add_one,h];rfl
end gG
namespace gG
def u7(s:Int)(n:Nat):run s (n+1)=run s n++[s+n]:=by
 induction n generalizing s with
 | zero=>simp[run]
 | succ n ih =>
  rw[run,ih,run];have:s+1+(n:Int)=s+((n+1:Nat):Int):=by lia
  rw[this];rfl
def BZ{a n:Int}(h:a<=n):jH (a,n+1)=jH (a,n)++[n]:=by
 unfold jH;have e:((a,n+1).2-(a,n+1).1).toNat=((a,n).2-(a,n).1).toNat+1:=by simp only;lia
 rw[e,u7];have:a+((((a,n).2-(a,n).1).toNat:Nat):Int)=n:=by simp only;lia
 simp only at this ⊢;rw[this]
def E4(n:Int):jH (n,n+1)=[n]:=by
 have:=BZ (a:=n) (n:=n) (Int.le_refl _);rw[this];have e:jH (n,n)=[]:=by unfold jH;simp[run]
 rw[e];rfl
def cQ(r q:Row):bz (r++q)=bz r++bz q:=by unfold bz;rw[List.flatMap_append]
def gp(p:Int × Int):bz [p]=jH p:=by simp[bz]
def HV(t:Row)(n:Int)(h:∀ p∈t,p.1<=p.2):bz (jk t n (n+1))=bz t++[n]:=by
 rcases qo t with rfl|⟨u,q,rfl⟩
 ·rw[lX,gp,E4];rfl
 ·rw[m6]at h ⊢;by_cases hq:q.2=n
  ·let⟨a,b⟩:=q;simp only at hq;subst hq;have hb:a<=b:=h (a,b) (by simp);rw[lY u rfl,cQ,cQ,gp,gp,BZ hb,mL]
  ·rw[lZ u hq,cQ,gp,E4]
def JT(t:Row)(n:Int)(h:∀ p∈t,p.1<=p.2):∀ p∈jk t n (n+1),p.1<=p.2:=by
 rcases qo t with rfl|⟨u,q,rfl⟩
 ·rw[lX];intro p hp;simp at hp;subst hp;show n<=n+1;lia
 ·rw[m6]at h ⊢;by_cases hq:q.2=n
  ·rw[lY u hq];intro p hp;rcases List.mem_append.mp hp with z|z
   ·exact h p (sj _ z)
   ·simp at z;subst z;have:=h q (by simp);show q.1<=n+1;lia
  ·rw[lZ u hq];intro p hp;rcases List.mem_append.mp hp with z|z
   ·exact h p z
   ·simp at z;subst z;show n<=n+1;lia
def fZ(ns:List Int):bz (d9 ns)=ns:=by
 have key:∀ (ns:List Int) (t:Row),(∀ p∈t,p.1<=p.2)->bz (ns.foldl (λt n=>jk t n (n+1)) t)=bz t++ns:=by
  intro ns
  induction ns with
  | nil=>intro t _;simp
  | cons n ns ih =>
   intro t h;rw[m7,ih _ (JT t n h),HV t n h,mL];rfl
 have:=key ns [] (λp hp=>by cases hp);simpa [d9,bz] using this
def qQ(ns:List Int):∀ p∈d9 ns,p.1<=p.2:=by
 have key:∀ (ns:List Int) (t:Row),(∀ p∈t,p.1<=p.2)->∀ p∈ns.foldl (λt n=>jk t n (n+1)) t,p.1<=p.2:=by
  intro ns
  induction ns with
  | nil=>intro t h;exact h
  | cons n ns ih=>intro t h;exact ih _ (JT t n h)
 exact key ns [] (λp hp=>by cases hp)
end gG
namespace gG
def xX(p:Int × Int)(h:p.1<=p.2):(↑(jH p):Int)=p.2-p.1:=by
 unfold jH;rw[gi];lia
theorem rN:∀ (r:Row),(∀ p∈r,p.1<=p.2)->(↑(bz r):Int)=jP r
 | [],_=>rfl
 | p::r,h=>by
  have ih:=rN r λq hq=>h q (oE _ hq);have hp:=xX p (h p (tL ..));have e:bz (p::r)=jH p++bz r:=rfl;rw[e,cX,E3];lia
end gG
namespace gG
open L2 cO
structure bX(K:PySem.W.Frag)(mg:Str->Option Value)(x:Str)(st:Stmt)(ps:List Str)(a:Addr)(d:FuncData):Prop where
 F:NG K x x st a d
 b:Binds K d ps []
 m:mg x=⇑↥a
section
variable {X:Cx}
theorem aI{x:Str}{st:Stmt}{ps:List Str}{f:Addr}{j k:Nat}{sp:Sp}{e:Expr}{es:List Expr}{t:TA}{p pos:Pos}(d:bX X.K X.mg x st ps f fd)(G:aY X.prog X.w X.K X.mg X.zt cP k f fd ps sp)(hr:gT j X.A)
  (ha:PA X (e::es) t) (Q0:k<=j:=by first|decide|lia) (hg:Gl X x:=by rfl) (AX:(x == ("__debug__":Str))=false:=by decide) (he:starEach (e::es) X.env=(false,eval e X.env)::starEach es X.env:=by rfl)
  (sN:(backTo pos (starEach es X.env)).any (·.1)=false:=by rfl):PE X (.Call (.Name x p) (e::es) [] pos) (EN sp [] E0 t) :=
 CQ G (hr.mono Q0) hg d.m d.F.kp d.b .nil cj ha AX he sN
theorem HW{st:Stmt}{t t':TS}(h:PS X st t)(hi:∀ D σ H,t' D σ H->t D σ H):PS X st t':=λak s σ H D I q=>h ak s σ H D I (hi D σ H q)
end
def cL(l:Addr)(H H':Hp):Prop:=∀ a o,H a=⇑o->a≠l->H' a=⇑o
theorem aJ.keep{l:Addr}{H H':Hp}(s:aJ H H'):cL l H H':=λa o e _=>s a o e
theorem cL.trans{l:Addr}{H H1 H2:Hp}(a:cL l H H1)(b:cL l H1 H2):cL l H H2:=λc o e n=>b c o (a c o e n) n
theorem aK(l:Addr)(H:Hp)(o:HO):cL l H (aM H l o):=λa u e n=>by rw[aG n];exact e
theorem bQ{l:Addr}{H H1 H2:Hp}(h:H l=none)(a:aJ H H1)(b:cL l H1 H2):aJ H H2:=λc o e=>b c o (a c o e) (az e h)
theorem au{H:Hp}{p:Addr}(h:H p=none)(o:HO):aJ H (aM H p o):=λb u q=>by rw[aG (az q h)];exact q
def iL{l a:Addr}{H H':Hp}(k:cL l H H')(n:a≠l)(h:H' a=none):H a=none:=by
 cases q:H a with
 | none=>rfl
 | some o=>rw[k a o q n]at h;cases h
def dJ(H:Hp)(l c:Addr):Prop:=c≠l/\∃ (ns:List Int) (i d r:Int),H l=⇑(.lst [↥c,.int i,.int d,.int r])/\H c=⇑(.lst (ns.map V.int))/\0<=i/\0<=r/\r<2147483647
def dJ.same{H H':Hp}{l c:Addr}(s:dJ H l c)(k:aJ H H'):dJ H' l c:=by
 let⟨n,ns,i,d,r,h1,h2,h3⟩:=s;exact⟨n,ns,i,d,r,k _ _ h1,k _ _ h2,h3⟩
def dJ.keep{H H':Hp}{l c m:Addr}(s:dJ H l c)(k:cL m H H')(h1:l≠m)(h2:c≠m):dJ H' l c:=by
 let⟨n,ns,i,d,r,e1,e2,h3⟩:=s;exact⟨n,ns,i,d,r,k _ _ e1 h1,k _ _ e2 h2,h3⟩
def dJ.ne{H:Hp}{l c a:Addr}(s:dJ H l c)(h:H a=none):l≠a/\c≠a:=by
 let⟨n,ns,i,d,r,e1,e2,h3⟩:=s;exact⟨az e1 h,az e2 h⟩
theorem Zf{a b c d:V}:qF [a,b,c,d] 0=⇑a:=rfl
theorem Vt{a b c d:V}:qF [a,b,c,d] 1=⇑b:=rfl
theorem Q2{a b c d:V}:qF [a,b,c,d] 2=⇑c:=rfl
theorem Zg{a b c d:V}:qF [a,b,c,d] 3=⇑d:=rfl
theorem Zh{a b:V}:qF [a,b] 0=⇑a:=rfl
theorem Vu{a b:V}:qF [a,b] 1=⇑b:=rfl
class inductive wG
 | mk (l c:Addr) (b:Int) (_:vs=[↥l,.int b]) (_:dJ H l c) (_:0<b) (_:b<10^70) (_ :
 ∀ (v:Int) (H':Hp),0<=v->v<b->dJ H' l c->(∀ a,a≠l->H' a=H a)->Q (.int v) H'):wG vs H Q E
class inductive T5(K:PySem.W.Frag)
 | mk (a:Addr) (ns:List Int) (_:vs=[↥a]) (_:bC K H a (ns.map V.int)) (_ :
 ∀ (l c:Addr) (H':Hp),dJ H' l c->aJ H H'->H l=none->H c=none->Q ↥l H')
def adN:V->Bool
 | .int _ | .bl _ | .str _ | .fV=>true
 | _=>false
def NV(k:Bool)(H:Hp)(a:Addr)(xs:List V):Prop:=match k with
 | true=>H a=⇑(.lst xs)
 | false=>H a=⇑(.tup xs)
def NV.same{k:Bool}{H H':Hp}{a:Addr}{xs:List V}(h:NV k H a xs)(s:aJ H H'):NV k H' a xs:=by
 cases k
 ·exact s _ _ h
 ·exact s _ _ h
def NV.sq{K:PySem.W.Frag}{k:Bool}{H:Hp}{a:Addr}{xs:List V}(h:NV k H a xs):JR K k H a xs:=by
 cases k
 ·exact gV.of h
 ·exact bC.of h
def Eqv(H:Hp):Nat->V->V->Prop
 | 0,_,_=>False
 | n+1,x,y=>(adN x=true/\x=y)\/∃ (k:Bool) (a b:Addr) (xs ys:List V),x=↥a/\y=↥b/\NV k H a xs/\NV k H b ys/\↑xs=↑ys/\
   ∀ (i:Nat) (u v:V),xs[i]?=⇑u->ys[i]?=⇑v->Eqv H n u v
theorem Eqv.same{H H':Hp}(s:aJ H H'):∀ {n:Nat} {x y:V},Eqv H n x y->Eqv H' n x y
 | 0,_,_,h=>h
 | n+1,x,y,h=>by
  rcases h with h|⟨k,a,b,xs,ys,e1,e2,h1,h2,hl,hi⟩
  ·exact .inl h
  ·exact .inr ⟨k,a,b,xs,ys,e1,e2,h1.same s,h2.same s,hl,λi u v eu ev=>Eqv.same s (hi i u v eu ev)⟩
theorem Eqv.int{H:Hp}{n:Nat}(i:Int):Eqv H (n+1) (.int i) (.int i):=.inl ⟨V⟩
def wH(n:Nat):Sp:=λvs H Q _=>∃ x y,vs=[x,y]/\Eqv H n x y/\∀ H',aJ H H'->Q (.bl true) H'
class inductive JU
 | mk (i:Int) (_:vs=[.int i]) (_:Q (.bl true) H)
section
variable (K:PySem.W.Frag)
def Zi:kitOne K (.type "bool") (.type "bool")=⇑true:=by rfl
def Zj:kitOne K (.type "int") (.type "bool")=⇑false:=by kernel_rfl
def Zk:kitOne K (.type "int") (.type "int")=⇑true:=by rfl
def adO:kitOne K (.type "str") (.type "bool")=⇑false:=by kernel_rfl
def adP:kitOne K (.type "str") (.type "int")=⇑false:=by kernel_rfl
def Zl:kitOne K (.type "str") (.type "str")=⇑true:=by rfl
def adQ:kitOne K (.type "list") (.type "bool")=⇑false:=by kernel_rfl
def adR:kitOne K (.type "list") (.type "int")=⇑false:=by kernel_rfl
def adS:kitOne K (.type "list") (.type "str")=⇑false:=by kernel_rfl
def Vv:kitOne K (.type "list") (.type "list")=⇑true:=by rfl
def k_lt:kitOne K (.type "list") (.type "tuple")=⇑false:=by kernel_rfl
def adT:kitOne K (.type "tuple") (.type "bool")=⇑false:=by kernel_rfl
def adU:kitOne K (.type "tuple") (.type "int")=⇑false:=by kernel_rfl
def adV:kitOne K (.type "tuple") (.type "str")=⇑false:=by kernel_rfl
def adW:kitOne K (.type "tuple") (.type "list")=⇑false:=by kernel_rfl
def adX:kitOne K (.type "tuple") (.type "tuple")=⇑true:=by rfl
end
def XY(k:Bool):Value:=.type (if k then "list" else "tuple")
def NV.ty{K:PySem.W.Frag}{k:Bool}{H:Hp}{a:Addr}{xs:List V}(h:NV k H a xs):jT K H ↥a (XY k):=by
 cases k
 ·exact jT.tup h
 ·exact jT.lst h
def adY(K:PySem.W.Frag)(k:Bool):kitOne K (XY k) (.type "bool")=⇑false:=by cases k;exact adT K;exact adQ K
def adZ(K:PySem.W.Frag)(k:Bool):kitOne K (XY k) (.type "int")=⇑false:=by cases k;exact adU K;exact adR K
def ad0(K:PySem.W.Frag)(k:Bool):kitOne K (XY k) (.type "str")=⇑false:=by cases k;exact adV K;exact adS K
def Zm(K:PySem.W.Frag)(k:Bool):kitOne K (XY k) (.type "list")=⇑k:=by cases k;exact adW K;exact Vv K
def Zn(K:PySem.W.Frag)(k:Bool):kitOne K (XY k) (.type "tuple")=⇑(!k):=by cases k;exact adX K;exact k_lt K
def wI(H:Hp)(a:Addr)(p:Int × Int):Prop:=H a=⇑(.tup [.int p.1,.int p.2])
abbrev bN(H:Hp):List Addr->Row->Prop:=Paired (wI H)
inductive cB(H:Hp)(r:Addr)(row:Row):Prop
 | mk (as:List Addr) (_:H r=⇑(.lst (as.map V.ref))) (_:bN H as row)
theorem bN.tups{H H':Hp}{as:List Addr}{row:Row}(h:bN H as row)(t:∀ a xs,H a=⇑(.tup xs)->H' a=⇑(.tup xs)):bN H' as row:=Paired.Hj h λa p e=>t a _ e
theorem bN.same{H H':Hp}{as:List Addr}{row:Row}(h:bN H as row)(s:aJ H H'):bN H' as row:=h.tups λa xs e=>s a _ e
def cB.same{H H':Hp}{r:Addr}{row:Row}(h:cB H r row)(s:aJ H H'):cB H' r row:=by
 let⟨as,h1,h2⟩:=h;exact⟨as,s _ _ h1,h2.same s⟩
theorem bN.keep{H H':Hp}{as:List Addr}{row:Row}{l:Addr}{xs:List V}(h:bN H as row)(hl:H l=⇑(.lst xs))(s:cL l H H'):bN H' as row :=
 h.tups λa ys e=>s a _ e (cY e hl)
def cB.keep{H H':Hp}{r:Addr}{row:Row}{l:Addr}{xs:List V}(h:cB H r row)(hl:H l=⇑(.lst xs))(n:r≠l)(s:cL l H H'):cB H' r row:=by
 let⟨as,h1,h2⟩:=h;exact⟨as,s _ _ h1 n,h2.keep hl s⟩
theorem bN.get{H:Hp}:∀ {as:List Addr} {row:Row} {i:Nat} {a:Addr},bN H as row->as[i]?=⇑a->∃ p,row[i]?=⇑p/\wI H a p
 | _,_,_,_,.nil,e=>by simp at e
 | _,_,0,_,.cons r _,e=>by simp at e;subst e;exact⟨Y,r⟩
 | _,_,i+1,a,.cons _ t,e=>by
  let⟨p,h1,h2⟩:=bN.get (i:=i) (a:=a) t (by simpa using e);exact⟨p,by simpa using h1,h2⟩
def bN.snoc{H:Hp}{as:List Addr}{row:Row}{a:Addr}{p:Int × Int}(h:bN H as row)(e:wI H a p):bN H (as++[a]) (row++[p]):=by
 induction h with
 | nil=>exact .cons e .nil
 | cons r _ ih=>exact .cons r ih
theorem bN.split{H:Hp}:∀ {as:List Addr} {row:Row} {p:Int × Int},bN H as (row++[p])->∃ bs a,as=bs++[a]/\bN H bs row/\wI H a p
 | as,[],p,h=>by
  cases h with
  | cons r t=>cases t;exact⟨[],Y,.nil,r⟩
 | as,q::row,p,h=>by
  cases h with
  | cons r t =>
   let⟨bs,a,rfl,h1,h2⟩:=bN.split (row:=row) (p:=p) t;exact⟨_::bs,a,rfl,.cons r h1,h2⟩
theorem bN.len{H:Hp}{as:List Addr}{row:Row}(h:bN H as row):↑as=↑row:=Paired.length h
def cB.eqv{H:Hp}{r q:Addr}{row:Row}(h:cB H r row)(g:cB H q row)(n:Nat):Eqv H (n+3) ↥r ↥q:=by
 let⟨as,h1,h2⟩:=h;let⟨bs,g1,g2⟩:=g;refine .inr ⟨true,r,q,Z,h1,g1,by rw[cy,cy,h2.len,g2.len],λi u v eu ev=>?_⟩;rw[gf]at eu ev;let⟨a,ea,rfl⟩:=Option.map_eq_some_iff.mp eu;let⟨b,eb,rfl⟩:=Option.map_eq_some_iff.mp ev;let⟨p,e1,k1⟩:=h2.get ea;let⟨p',e2,k2⟩:=g2.get eb;rw[e1]at e2;cases e2;refine .inr ⟨false,a,b,Z,k1,k2,rfl,λj u v eu ev=>?_⟩;rw[eu]at ev;cases ev
 match j,eu with
 | 0,eu=>cases eu;exact Eqv.int _
 | 1,eu=>cases eu;exact Eqv.int _
theorem eX{α:Type}(xs:List α)(v:α):qF (xs++[v]) (-1)=⇑v:=Nm xs v
def zB(n:Nat):JI (n+1) (-1)=⇑n:=by
 unfold JI;rw[if_neg (by decide),if_pos ∅];congr 1;lia
def zC{α:Type}(xs:List α)(a b:α):(xs++[a]).set ↑xs b=xs++[b]:=by
 simp
def zD(lo:Int)(n:Nat):BY lo n=(run lo n).map V.int:=by
 unfold BY
 induction n generalizing lo with
 | zero=>rfl
 | succ n ih =>
  rw[List.range_succ_eq_map,jy,List.map_map,run,jy,← ih (lo+1)];congr 1
  ·simp
  ·apply List.map_congr_left;intro i _;simp only[Function.comp,Nat.succ_eq_add_one];congr 1;lia
class inductive Q3(lim:Nat)
 | mk (r:Addr) (row:Row) (_:vs=[↥r]) (_:cB H r row) (_:(∀ p∈row,0<=p.1/\p.1<=p.2/\p.2<2^62)) (_:↑(bz row)<=1000000) (_:↑row<=lim) (_ :
 ∀ (n:Addr) (H':Hp),H' n=⇑(.lst ((bz row).map V.int))->aJ H H'->H n=none->Q ↥n H')
class inductive Q4
 | mk (n:Addr) (ns:List Int) (_:vs=[↥n]) (_:H n=⇑(.lst (ns.map V.int))) (_:↑ns<=1000000) (_ :
 ∀ (r:Addr) (H':Hp),cB H' r (d9 ns)->aJ H H'->H r=none->Q ↥r H')
class inductive Q5
 | mk (r:Addr) (row:Row) (_:vs=[↥r]) (_:cB H r row) (_:↑row<=1000000) (_ :
 ∀ (q:Addr) (H':Hp),cB H' q (cU row)->aJ H H'->H q=none->Q ↥q H')
theorem aQ{n:Nat}(h:n<=1000001):n<sizeLine:=Nat.lt_of_le_of_lt h (by decide)
end gG
namespace gG
open L2 cO
def Vw:TS:=λD σ H=>∃ (l c:Addr) (b:Int),σ=[⇑↥l,⇑(.int b),none,none]/\dJ H l c/\
 ∀ (cell:Option V) (H':Hp),dJ H' l c->(∀ a,a≠l->H' a=H a)->D.nx [⇑↥l,⇑(.int b),cell,none] H'
def Vx:TS:=λD σ H=>∃ (l c:Addr) (b:Int),σ=[⇑↥l,⇑(.int b),⇑(.int 7),none]/\dJ H l c/\
 ∀ (cell:Int) (H':Hp),dJ H' l c->(∀ a,a≠l->H' a=H a)->D.nx [⇑↥l,⇑(.int b),⇑(.int cell),none] H'
def Q6{ns:List Int}{i:Int}(h0:0<=i)(h1:i<(↑ns:Int)):∃ v:Int,qF (ns.map V.int) i=⇑(.int v):=by
 have hk:i.toNat<↑ns:=by lia
 exists ns[i.toNat]
 have q:qF (ns.map V.int) ((i.toNat:Nat):Int)=⇑(.int ns[i.toNat]):=dF (by rw[gf,qB hk] <;> rfl)
 have ei:((i.toNat:Nat):Int)=i:=by lia
 rw[ei]at q;exact q
def NW(ns:List Int)(lo hi:Option Int):∃ ms:List Int,jN (ns.map V.int) lo hi=ms.map V.int:=by
 unfold jN;exists (ns.drop (HT.i7 ↑(ns.map V.int) 0 lo)).take (HT.i7 ↑(ns.map V.int) ↑(ns.map V.int) hi-HT.i7 ↑(ns.map V.int) 0 lo);rw[List.map_take,List.map_drop]
def tt{p:Prop} [Decidable p] {Q:V->Hp->Prop} {H:Hp} (hp:p) (h:Q (.bl true) H):Q (.bl (decide p)) H:=by
 rw[decide_eq_true hp];exact h
def NV.or{K:PySem.W.Frag}{k:Bool}{H:Hp}{a:Addr}{xs:List V}(h:NV k H a xs):bC K H a xs\/gV K H a xs:=by
 cases k
 ·exact .inr (gV.of h)
 ·exact .inl (bC.of h)
theorem bY{l:Addr}{H H':Hp}(k:∀ a,a≠l->H' a=H a):cL l H H':=λa o e n=>by rw[k a n];exact e
end gG
namespace gG
open L2 cO
def dJ.lst{H:Hp}{l c:Addr}(s:dJ H l c):∃ xs,H l=⇑(.lst xs):=by
 let⟨n,ns,i,d,r,e1,_⟩:=s;exact⟨_,e1⟩
end gG
namespace cO
open Spec Rows L2
section
variable {prog:Program} {w:World} {A:Around} {R:Result->Shared->Prop} {s:Shared}
def rO(jO:List Expr)(env:Env):Sem Bool:=forIn jO true λc r=>if r=true then do let ok ← isTrue c env (eval c env);pure (ForInStep.yield ok) else pure (ForInStep.yield r)
theorem Lk{iter:Expr}{scope:Scope}{it acc:Value}{env:Env}(I:Nat->Shared->Prop)
  (tN:∀ n s,I n s->wpAny (model prog w) A (pyNext it) (λr s₁=>match r with
   | none=>R (.ok .next) s₁
   | some v=>wpAny (model prog w) A (letOwnedTupleGo v8 it v) (λ_ s₂=>wpAny (model prog w) A (assign v8 env v) (λ_ s₃ =>
     wpAny (model prog w) A (rO jO env) (λok s₄ =>
      if ok=true then wpAny (model prog w) A (eval j5 env) (λx s₅=>wpAny (model prog w) A (call (.builtin "list.append") [acc,x]) (λ_ s₆=>∃ m,m<n/\I m s₆) (λ_ _=>False) s₅) (λ_ _=>False) s₄
      else ∃ m,m<n/\I m s₄) (λ_ _=>False) s₃) (λ_ _=>False) s₂) (λ_ _=>False) s₁) (λ_ _=>False) s)
  (n:Nat) (h:I n s):codeAny (model prog w) A (.compLoop (.ListComp j5 [⟨v8,iter,jO,0⟩] scope pos) 0 it acc env) R s:=by
 refine codeAny_loop rfl I (λn s hI=>?_) n h;show wpAny _ A ((compTurn (.ListComp j5 [⟨v8,iter,jO,0⟩] scope pos) 0 it acc env).onRaise (λx=>do noteFrame x env;theTreesLotGoes x)) _ _ s;refine wpAny_noted ?_;rw[compTurn_list];refine wpAny_bind (wpAny_standAt (wpAny_bind (wpAny_mono (tN n s hI) (λr s₁ h₁=>?_) λ_ _ h'=>h'.elim)))
 cases r with
 | none=>exact wpAny_pure h₁
 | some v =>
  refine wpAny_bind (wpAny_mono h₁ (λ_ s₂ h₂=>wpAny_bind (wpAny_mono h₂ (λ_ s₃ h₃=>wpAny_bind (wpAny_mono h₃ (λok s₄ h₄=>?_) λ_ _ h'=>h'.elim)) λ_ _ h'=>h'.elim)) λ_ _ h'=>h'.elim)
  cases ok with
  | false=>exact wpAny_pure ⟨rfl,h₄⟩
  | true=>exact wpAny_bind (wpAny_bind (wpAny_mono h₄ (λx s₅ h₅=>wpAny_bind (wpAny_mono h₅ (λ_ s₆ h₆=>wpAny_pure (wpAny_pure ⟨rfl,h₆⟩)) λ_ _ h'=>h'.elim)) λ_ _ h'=>h'.elim))
end
section
variable {X:Cx} {N:List Str} {scope:Scope}
def Ll(X:Cx)(jO:List Expr)(t:TT):Prop :=
 ∀ (ak:List (Addr × Obj)) (s:Shared) (σ:L2.St) (H:Hp) (Q:Bool->Hp->Prop),Inv X ak σ H s->t σ H Q->wpAny (model X.prog X.w) X.A (rO jO X.env) (TP X ak σ Q) X.xe s
def NY:TT:=λ_ H Q=>Q true H
theorem gX:Ll X [] NY:=λak s σ H Q I h=>wpAny_tests_nil ⟨H,I,h⟩
theorem C9{c:Expr}{t:TT}(h:PT X c t):Ll X [c] t:=λak s σ H Q I q=>wpAny_tests_one (h ak s σ H Q I q)
end
end cO
namespace cO
open Spec Rows L2
theorem Lm{P:Program}{w:World}{K:PySem.W.Frag}(it:Addr)(lo:Int)(n:Nat):Hq P w K tg (KR lo n) [it] it (λi h=>IsLongIter h it (lo+(i:Nat)*1) ((n:Int)-(i:Nat)) 1) where
 mem:=by simp
 obj:=λi h st b hb=>by
  have e:b=it:=by simpa using hb
  subst e
  exact⟨_,st,λv z=>by
   have z':Data.fields _=Data.cell v:=z
   cases z'⟩
 keep:=λi h h' st k=>k it (by simp) _ st
 item:=by
  intro X hP hw hK hc i ak s σ H E I hf st hg;subst hP hw hK;let⟨f0,f1,f2,f3,f4,f5⟩:=hf it (by simp);have W:=Walks.longrange (prog:=X.prog) (w:=X.w) (I.ok.hd hc) it lo 1 n;refine W.item i s _ _ hg st λv h' tk hv CO kk=>?_;let⟨t,rfl⟩:=hv;have I1:Inv X ak σ H { s with heap:=h',toks:=tk }:=I.turned (λb o hb e=>kk b o (by simpa using hb) e) f0 f1 f3 f4 f5;refine⟨Y,EL (s:={ s with heap:=h',toks:=tk }) (n:="longrange_iterator") CO rfl rfl (by decide) ⟨.int (lo+i),H,I1,⟨t,?_⟩,⟨V⟩,CO,λb hb=>(hf b hb).1⟩⟩;rw[Int.mul_one]
 done:=by
  intro X hP hw hK hc i ak s σ H E I hf st hg;subst hP hw hK;let⟨f0,f1,f2,f3,f4,f5⟩:=hf it (by simp);exact wpAny_pyNext_long_end (I.ok.hd hc) st (by have:n<=i:=hg;lia) λh' eb=>⟨rfl,I.turned (t':=s.toks) (λb o hb e=>eb b o hb e) f0 f1 f3 f4 f5⟩
 self:=λ_ _ _ _ _ st h=>wpAny_pyIter_longiter st h
section
variable {X:Cx} {tg:Expr}
theorem Ln{σ:L2.St}{H:Hp}{s:Shared}{R:It->Hp->Prop}{E:Value->Shared->Prop}{lo hi:Int}{t u v:Tok}{tk:Nat}(I:Inv X ak σ H s)
  (q:R (KR lo (hi-lo).toNat) H):wpAny (model X.prog X.w) X.A (pyIter ↥s.heap.objs.size) (PIE X ak σ tg R) E { s with heap:=s.heap.push { cls:=.type "range",data:=.fields #[.int lo t,.int hi u,.int 1 v] },toks:=tk }:=by
 have I1:Inv X ak σ H { s with heap:=s.heap.push { cls:=.type "range",data:=.fields #[.int lo t,.int hi u,.int 1 v] },toks:=tk }:=I.kept λb o e=>Heap.get?_push_of_some _ e;have e1:lo+((0:Nat):Int)*1=lo:=by simp
 have e2:(((hi-lo).toNat:Nat):Int)-((0:Nat):Int)=Builtin.Range.rangeSize lo hi 1:=by rw[rangeSize_one];split <;> lia
 have fp:∀ b∈[(s.heap.push { cls:=.type "range",data:=.fields #[.int lo t,.int hi u,.int 1 v] }).objs.size],oO X ak H b:=λb hb=>by
  have e:b=(s.heap.push { cls:=.type "range",data:=.fields #[.int lo t,.int hi u,.int 1 v] }).objs.size:=by simpa using hb
  subst e;exact I1.KQ (fT _) (I1.hok.fresh (fT _))
 cases hb:Builtin.Range.small lo hi 1 with
 | true =>
  refine wpAny_pyIter_range (IsRange.new ..) hb ?_;refine⟨_,[(s.heap.push { cls:=.type "range",data:=.fields #[.int lo t,.int hi u,.int 1 v] }).objs.size],P,H,rfl,I1.kept (t':=tk) λb o e=>Heap.get?_push_of_some _ e,zg _ lo (hi-lo).toNat,?_,fp,q⟩;show IsRangeIter _ _ (lo+((0:Nat):Int)*1) ((((hi-lo).toNat:Nat):Int)-((0:Nat):Int)) 1;rw[e1,e2];exact Heap.get?_push_size _ rfl
 | false =>
  refine wpAny_pyIter_longrange (IsRange.new ..) hb ?_;refine⟨_,[(s.heap.push { cls:=.type "range",data:=.fields #[.int lo t,.int hi u,.int 1 v] }).objs.size],P,H,rfl,I1.kept (t':=tk) λb o e=>Heap.get?_push_of_some _ e,Lm _ lo (hi-lo).toNat,?_,fp,q⟩;show IsLongIter _ _ (lo+((0:Nat):Int)*1) ((((hi-lo).toNat:Nat):Int)-((0:Nat):Int)) 1;rw[e1,e2];exact Heap.get?_push_size _ rfl
def Zo(ta:TA):TI:=fun σ H R=>ta σ H λvs H1=>∃ i j:Int,vs=[.int i,.int j]/\R (KR i (j-i).toNat) H1
theorem Lo{a b:Expr}{ta:TA}{p pos:Pos}(hg:Gl X "range")(hm:X.mg "range"=none)(ha:PA X [a,b] ta)(hs:starEach [a,b] X.env=[(false,eval a X.env),(false,eval b X.env)]:=by rfl)(G1:starEach [b] X.env=[(false,eval b X.env)]:=by rfl) :
  PI X tg (.Call (.Name "range" p) [a,b] [] pos) (Zo ta):=by
 intro ak s σ H R I h;refine Call_ (vZ I hg hm boot_range (PyProof.Rows.callWith_type1 (cI (ha pos ak s σ H _ I h) λus s1 ⟨vs,H1,I1,r1,q1⟩=>?_) (by rw[hs,G1]) (by rw[G1];rfl)));let⟨i,j,e,q⟩:=q1;subst e;let⟨u1,u2,rfl,⟨t,rfl⟩,⟨t',rfl⟩⟩:=r1.two;exact call_range_2 (Ln I1 q)
end
end cO
namespace cO
open Spec Rows L2
section
variable {prog:Program} {w:World} {A:Around} {R:Result->Shared->Prop} {s:Shared}
theorem Q7(j5 tg iter qA dO:Expr)(jO jm:List Expr)(scope:Scope)(pos:Pos)(it acc:Value)(env:Env) :
  compTurn (.ListComp j5 [⟨tg,iter,jO,0⟩,⟨qA,dO,jm,0⟩] scope pos) 1 it acc env=(do
   standAt dO.pos
   match ← pyNext it with
   | none=>pure (.done .next)
   | some v =>
    letOwnedTupleGo qA it v
    assign qA env v
    let ok ← rO jm env
    if ok then (do let _ ← call (.builtin "list.append") [acc,← eval j5 env])
    again (.compLoop (.ListComp j5 [⟨tg,iter,jO,0⟩,⟨qA,dO,jm,0⟩] scope pos) 1 it acc env)):=by rfl
theorem NZ(j5 tg iter qA dO:Expr)(jO jm:List Expr)(scope:Scope)(pos:Pos)(it acc:Value)(env:Env) :
  compTurn (.ListComp j5 [⟨tg,iter,jO,0⟩,⟨qA,dO,jm,0⟩] scope pos) 0 it acc env=(do
   standAt iter.pos
   match ← pyNext it with
   | none=>pure (.done .next)
   | some v =>
    letOwnedTupleGo tg it v
    assign tg env v
    let ok ← rO jO env
    if ok then
     let x ← eval dO env
     standAt dO.pos
     let x ← foldedSetIterable dO env x
     let _ ← runOwn (.compStart (.ListComp j5 [⟨tg,iter,jO,0⟩,⟨qA,dO,jm,0⟩] scope pos) 1 (← holding [x] (pyIter x)) acc env) env
    again (.compLoop (.ListComp j5 [⟨tg,iter,jO,0⟩,⟨qA,dO,jm,0⟩] scope pos) 0 it acc env)):=by rfl
theorem Vy{iter:Expr}{scope:Scope}{it acc:Value}{env:Env}(I:Nat->Shared->Prop)
  (tN:∀ n s,I n s->wpAny (model prog w) A (pyNext it) (λr s₁=>match r with
   | none=>R (.ok .next) s₁
   | some v=>wpAny (model prog w) A (letOwnedTupleGo qA it v) (λ_ s₂=>wpAny (model prog w) A (assign qA env v) (λ_ s₃ =>
     wpAny (model prog w) A (rO jm env) (λok s₄ =>
      if ok=true then wpAny (model prog w) A (eval j5 env) (λx s₅=>wpAny (model prog w) A (call (.builtin "list.append") [acc,x]) (λ_ s₆=>∃ m,m<n/\I m s₆) (λ_ _=>False) s₅) (λ_ _=>False) s₄
      else ∃ m,m<n/\I m s₄) (λ_ _=>False) s₃) (λ_ _=>False) s₂) (λ_ _=>False) s₁) (λ_ _=>False) s)
  (n:Nat) (h:I n s):codeAny (model prog w) A (.compLoop (.ListComp j5 [⟨tg,iter,jO,0⟩,⟨qA,dO,jm,0⟩] scope pos) 1 it acc env) R s:=by
 refine codeAny_loop rfl I (λn s hI=>?_) n h;show wpAny _ A ((compTurn (.ListComp j5 [⟨tg,iter,jO,0⟩,⟨qA,dO,jm,0⟩] scope pos) 1 it acc env).onRaise (λx=>do noteFrame x env;theTreesLotGoes x)) _ _ s;refine wpAny_noted ?_;rw[Q7];refine wpAny_bind (wpAny_standAt (wpAny_bind (wpAny_mono (tN n s hI) (λr s₁ h₁=>?_) λ_ _ h'=>h'.elim)))
 cases r with
 | none=>exact wpAny_pure h₁
 | some v =>
  refine wpAny_bind (wpAny_mono h₁ (λ_ s₂ h₂=>wpAny_bind (wpAny_mono h₂ (λ_ s₃ h₃=>wpAny_bind (wpAny_mono h₃ (λok s₄ h₄=>?_) λ_ _ h'=>h'.elim)) λ_ _ h'=>h'.elim)) λ_ _ h'=>h'.elim)
  cases ok with
  | false=>exact wpAny_pure ⟨rfl,h₄⟩
  | true=>exact wpAny_bind (wpAny_bind (wpAny_mono h₄ (λx s₅ h₅=>wpAny_bind (wpAny_mono h₅ (λ_ s₆ h₆=>wpAny_pure (wpAny_pure ⟨rfl,h₆⟩)) λ_ _ h'=>h'.elim)) λ_ _ h'=>h'.elim))
theorem Q8{iter:Expr}{scope:Scope}{it acc:Value}{env:Env}
  (h0:codeAny (model prog w) A (.compLoop (.ListComp j5 [⟨tg,iter,jO,0⟩,⟨qA,dO,jm,0⟩] scope pos) 1 it acc env) R s)
  (h:wpAny (model prog w) A (pyIter it) (λQ9 s'=>codeAny (model prog w) A (.compLoop (.ListComp j5 [⟨tg,iter,jO,0⟩,⟨qA,dO,jm,0⟩] scope pos) 1 Q9 acc env) R s') (λ_ _=>False) s) :
  codeAny (model prog w) A (.compStart (.ListComp j5 [⟨tg,iter,jO,0⟩,⟨qA,dO,jm,0⟩] scope pos) 1 it acc env) R s:=by
 refine codeAny_of_tree ?_;show wpAny _ _ ((compStart (.ListComp j5 [⟨tg,iter,jO,0⟩,⟨qA,dO,jm,0⟩] scope pos) 1 it acc env).onRaise (λx=>do noteFrame x env;standAt theWindowsPlace)) _ _ s;refine wpAny_notedAt ?_;unfold compStart;show wpAny _ _ (ask >>= _) _ _ s;refine wpAny_bind (wpAny_askSetting (wpAny_ite ?_));split
 ·first
   | exact wpAny_bind (wpAny_pure (wpAny_pure (And.intro rfl h0)))
   | exact wpAny_pure (And.intro rfl h0)
 ·first
   | exact wpAny_bind (wpAny_rule (wpAny_bind (wpAny_standAt (wpAny_bind (wpAny_mono h (λQ9 s' h'=>wpAny_pure (And.intro rfl h')) λ_ _ x=>x.elim)))))
   | (refine wpAny_bind (wpAny_rule ?_);show wpAny _ _ (standAt dO.pos >>= _) _ _ s;exact wpAny_bind (wpAny_standAt (wpAny_bind (wpAny_mono h (λQ9 s' h'=>wpAny_pure (And.intro rfl h')) λ_ _ x=>x.elim))))
theorem Rc{iter:Expr}{scope:Scope}{it acc:Value}{env:Env}(I:Nat->Shared->Prop)
  (G1:∀ x,foldedSetIterable dO env x=pure x)
  (tN:∀ n s,I n s->wpAny (model prog w) A (pyNext it) (λr s₁=>match r with
   | none=>R (.ok .next) s₁
   | some v=>wpAny (model prog w) A (letOwnedTupleGo tg it v) (λ_ s₂=>wpAny (model prog w) A (assign tg env v) (λ_ s₃ =>
     wpAny (model prog w) A (rO jO env) (λok s₄ =>
      if ok=true then wpAny (model prog w) A (eval dO env) (λx s₅=>wpAny (model prog w) A (pyIter x) (λXZ s₆ =>
       codeAny (model prog w) A (.compStart (.ListComp j5 [⟨tg,iter,jO,0⟩,⟨qA,dO,jm,0⟩] scope pos) 1 XZ acc env) (λr s₇=>(∃ f,r=.ok f)/\∃ m,m<n/\I m s₇) s₆) (λ_ _=>False) s₅) (λ_ _=>False) s₄
      else ∃ m,m<n/\I m s₄) (λ_ _=>False) s₃) (λ_ _=>False) s₂) (λ_ _=>False) s₁) (λ_ _=>False) s)
  (n:Nat) (h:I n s):codeAny (model prog w) A (.compLoop (.ListComp j5 [⟨tg,iter,jO,0⟩,⟨qA,dO,jm,0⟩] scope pos) 0 it acc env) R s:=by
 refine codeAny_loop rfl I (λn s hI=>?_) n h;show wpAny _ A ((compTurn (.ListComp j5 [⟨tg,iter,jO,0⟩,⟨qA,dO,jm,0⟩] scope pos) 0 it acc env).onRaise (λx=>do noteFrame x env;theTreesLotGoes x)) _ _ s;refine wpAny_noted ?_;rw[NZ];refine wpAny_bind (wpAny_standAt (wpAny_bind (wpAny_mono (tN n s hI) (λr s₁ h₁=>?_) λ_ _ h'=>h'.elim)))
 cases r with
 | none=>exact wpAny_pure h₁
 | some v =>
  refine wpAny_bind (wpAny_mono h₁ (λ_ s₂ h₂=>wpAny_bind (wpAny_mono h₂ (λ_ s₃ h₃=>wpAny_bind (wpAny_mono h₃ (λok s₄ h₄=>?_) λ_ _ h'=>h'.elim)) λ_ _ h'=>h'.elim)) λ_ _ h'=>h'.elim)
  cases ok with
  | false=>exact wpAny_pure ⟨rfl,h₄⟩
  | true =>
   refine wpAny_bind (wpAny_mono h₄ (λx s₅ h₅=>wpAny_bind (wpAny_standAt (wpAny_bind (wpAny_of_eq (G1 x) (wpAny_bind (wpAny_holding (wpAny_mono h₅ (λXZ s₆ h₆=>?_) λ_ _ h'=>h'.elim))))))) λ_ _ h'=>h'.elim);refine wpAny_bind (wpAny_runOwn (codeAny_mono h₆ λr s₇ EE=>?_));let⟨⟨f,hf⟩,hm⟩:=EE;subst hf;exact wpAny_pure ⟨rfl,hm⟩
end
section
variable {X:Cx} {N:List Str} {scope:Scope}
def HX(wi:TI)(acc:Addr)(g:TG)(tt:TT)(te:TE):L2.St->Hp->(L2.St->Hp->Prop)->Prop:=fun σ H Nx=>wi σ H λJ H1 =>
 ∃ W:Nat->Nat->L2.St->Hp->Prop,(∃ m,W 0 m σ H1)/\∀ i m σ H,W i m σ H->
  (J.stop i H/\Nx σ H)\/(J.go i H/\∃ N2:L2.St->Hp->Prop,(∀ σ' H',N2 σ' H'->∃ m',m'<m/\W (i+1) m' σ' H')/\∀ x H',J.M6 i H x H'->g x σ H' fun σ2 H2=>tt σ2 H2 λb H3 =>
   if b=true then te σ2 H3 λv H4=>∃ xs,H4 acc=⇑(.lst xs)/\↑xs<sizeLine/\N2 σ2 (aM H4 acc (.lst (xs++[v]))) else N2 σ2 H3)
theorem Lp{Y:Cx}{iter:Expr}{HY:TI}{g2:TG}{HZ:TT}{te:TE}(hc:Y.calm=true)(hxe:Y.xe=λ_ _=>False)(hi:PI Y qA dO HY)(hg:PG Y qA g2)(ht:Ll Y jm HZ)(he:PE Y j5 te)
  {ak:List (Addr × Obj)} {s:Shared} {σ:L2.St} {H:Hp} {Nx:L2.St->Hp->Prop} (I:Inv Y ak σ H s) (h:HX HY acc g2 HZ te σ H Nx) :
  wpAny (model Y.prog Y.w) Y.A (eval dO Y.env) (λx s₅=>wpAny (model Y.prog Y.w) Y.A (pyIter x) (λXZ s₆ =>
   codeAny (model Y.prog Y.w) Y.A (.compStart (.ListComp j5 [⟨tg,iter,jO,0⟩,⟨qA,dO,jm,0⟩] scope pos) 1 XZ ↥acc Y.env) (λr s₇=>(∃ f,r=.ok f)/\∃ σ' H',Inv Y ak σ' H' s₇/\Nx σ' H') s₆) (λ_ _=>False) s₅) (λ_ _=>False) s:=by
 have hi':=hi ak s σ H _ I h;have hg':=hg;have ht':=ht;have he':=he;unfold PG at hg';unfold Ll at ht';unfold PE at he';rw[hxe]at hi' hg' ht' he';refine cI hi' λv s1 h1=>cI h1 λYK s2 h2=>?_;let⟨it,fp,tn,J,H2,e,I2,T,st2,f2,W,⟨m0,w0⟩,tN⟩:=h2;subst e;have tP:∀ {H':Hp},(∀ b∈fp,H' b=none)->∀ b∈fp,oO Y ak H' b:=λhn b hb=>⟨hn b hb,(f2 b hb).2⟩
 have loop:codeAny (model Y.prog Y.w) Y.A (.compLoop (.ListComp j5 [⟨tg,iter,jO,0⟩,⟨qA,dO,jm,0⟩] scope pos) 1 ↥it ↥acc Y.env) (λr s₇=>(∃ f,r=.ok f)/\∃ σ' H',Inv Y ak σ' H' s₇/\Nx σ' H') s2:=by
  refine Vy (λn s'=>∃ i σ' H',Inv Y ak σ' H' s'/\tn i s'.heap/\(∀ b∈fp,H' b=none)/\W i n σ' H') ?_ m0 ⟨0,σ,H2,I2,st2,λb hb=>(f2 b hb).1,w0⟩;rintro n s6 ⟨i,σ6,H6,I6,T6,JV,w6⟩;rcases tN i n σ6 H6 w6 with ⟨stop,qn⟩|⟨go,N2,hN,step⟩
  ·refine cI (T.done Y rfl rfl rfl hc i ak s6 σ6 H6 _ I6 (tP JV) T6 stop) λr s7 EK=>?_;let⟨hr,I7⟩:=EK;subst hr;exact⟨⟨Y⟩,σ6,H6,I7,qn⟩
  ·refine cI (T.item Y rfl rfl rfl hc i ak s6 σ6 H6 _ I6 (tP JV) T6 go) λr s7 EF=>?_;let⟨u,hr,h7⟩:=EF;subst hr;refine cI h7 λ_ s8 AW=>?_;let⟨x,H8,I8,r8,y8,N1,Dc⟩:=AW;have Zp:=I8.pinned (tP Dc) (T.obj _ _ N1);refine cI (hg' _ s8 σ6 H8 x u _ Zp r8 (step x H8 y8)) λ_ s9 ED=>?_;let⟨σ9,H9,I9,q9⟩:=ED;refine cI (ht' _ s9 σ9 H9 _ I9 q9) λok s10 CM=>?_;let⟨MP,T7,BS⟩:=CM
   have again:∀ {σ7:L2.St} {H7:Hp} {vR:Shared},Inv Y (ak++tO fp s8.heap) σ7 H7 vR->N2 σ7 H7->∃ m,m<n/\∃ i σ' H',Inv Y ak σ' H' vR/\tn i vR.heap/\(∀ b∈fp,H' b=none)/\W i m σ' H':=λ{σ7 H7 vR} I7 n7=>by
    let⟨m',hm,w7⟩:=hN σ7 H7 n7;refine⟨m',hm,i+1,σ7,H7,I7.nP,T.keep _ _ _ N1 λb hb o e=>(I7.pin (b,o) (oF _ (oF _ (ie hb e)))).1,λb hb=>?_,w7⟩;let⟨o,e,d⟩:=T.obj _ _ N1 b hb;exact (I7.pin (b,o) (oF _ (oF _ (ie hb e)))).2.1
   cases ok with
   | false =>
    rw[if_neg gE]at BS;exact again T7 BS
   | true =>
    rw[if_pos rfl]at BS;refine cI (he' _ s10 σ9 MP _ T7 BS) λv vR CN=>?_;let⟨y,H11,I11,r11,xs,hx,hz,n11⟩:=CN;have ap:=bT _ vR σ9 H11 ↥acc [y] ↥acc [v] (λ_ H'=>N2 σ9 H') I11 rfl (.cons r11 .nil) ⟨_,xs,y,V,hx,hz,n11⟩;rw[hxe]at ap;exact cI ap λ_ mO ⟨_,Zq,I12,_,Vz⟩=>again I12 Vz
 exact Q8 loop (T.self _ _ _ _ _ st2 loop)
theorem E5{lo:Int}{k:Nat}{g:TG}{tt:TT}{te:TE}{σ:L2.St}{H:Hp}{Nx:L2.St->Hp->Prop}(Pv:Nat->L2.St->Hp->Prop)(h0:Pv 0 σ H)
  (hs:∀ i σ H,i<k->Pv i σ H->g (.int (lo+i)) σ H fun σ2 H2=>tt σ2 H2 λb H3=>if b=true then te σ2 H3 λv H4=>∃ ys,H4 acc=⇑(.lst ys)/\↑ys<sizeLine/\Pv (i+1) σ2 (aM H4 acc (.lst (ys++[v]))) else Pv (i+1) σ2 H3)
  (hd:∀ σ H,Pv k σ H->Nx σ H):∃ W:Nat->Nat->L2.St->Hp->Prop,(∃ m,W 0 m σ H)/\∀ i m σ H,W i m σ H->
  ((KR lo k).stop i H/\Nx σ H)\/((KR lo k).go i H/\∃ N2:L2.St->Hp->Prop,(∀ σ' H',N2 σ' H'->∃ m',m'<m/\W (i+1) m' σ' H')/\∀ x H',(KR lo k).M6 i H x H'->g x σ H' fun σ2 H2=>tt σ2 H2 λb H3 =>
   if b=true then te σ2 H3 λv H4=>∃ xs,H4 acc=⇑(.lst xs)/\↑xs<sizeLine/\N2 σ2 (aM H4 acc (.lst (xs++[v]))) else N2 σ2 H3):=by
 refine⟨λi m σ H=>m=k-i/\i<=k/\Pv i σ H,⟨k,by simp,Nat.zero_le _,h0⟩,?_⟩;rintro i m σ H ⟨rfl,hi,p⟩;by_cases qz:i<k
 ·refine .inr ⟨qz,Pv (i+1),fun σ' H' p'=>⟨k-(i+1),Q,rfl,qz,p'⟩,λx H' y=>?_⟩;let⟨e,y⟩:=y;subst e y;exact hs i σ _ qz p
 ·have e:i=k:=by lia
  subst e;exact .inl ⟨Nat.le_refl _,hd σ H p⟩
end
theorem VA{i:Nat}{v:V}{σ:L2.St}{H:Hp}{Q:L2.St->Bool->Hp->Prop}(h:Q (σ.set i (⇑v)) true H):sM i v σ H (fun σ2 H2=>NY σ2 H2 (Q σ2)):=h
theorem yes{σ:L2.St}{H:Hp}{Q:Bool->Hp->Prop}(h:Q true H):NY σ H Q:=h
end cO
namespace gG
open L2 cO
class inductive Rf
 | mk (r:Addr) (row:Row) (_:vs=[↥r]) (_:cB H r row) (_:(∀ p∈row,p.1<=p.2)) (_:↑(bz row)<=1000000) (_ :
 ∀ (n:Addr) (H':Hp),H' n=⇑(.lst ((bz row).map V.int))->aJ H H'->H n=none->Q ↥n H')
def zE{row:Row}{i:Nat}{p:Int × Int}(h:row[i]?=⇑p):bz (row.take (i+1))=bz (row.take i)++jH p:=by
 rw[take_snoc h,cQ,gp]
def sU(row:Row)(i:Nat):↑(bz (row.take i))<=↑(bz row):=by
 conv=>rhs;rw[← List.take_append_drop i row,cQ,cX]
 lia
theorem E6{H0 H2:Hp}{q t:Addr}{bs:List Addr}{row:Row}{st en:Int}(hq0:H0 q=none)(s:aJ H0 H2)(eK:H2 q=⇑(.lst (bs.map V.ref)))(hb:bN H2 bs row)(ht:H2 t=none) :
  (aM (aM H2 t (.tup [.int st,.int en])) q (.lst (bs.map V.ref++[↥t]))) q=⇑(.lst ((bs++[t]).map V.ref))/\
  bN (aM (aM H2 t (.tup [.int st,.int en])) q (.lst (bs.map V.ref++[↥t]))) (bs++[t]) (row++[(st,en)])/\aJ H0 (aM (aM H2 t (.tup [.int st,.int en])) q (.lst (bs.map V.ref++[↥t]))):=by
 have VB:q≠t:=az eK ht;have s1:aJ H2 (aM H2 t (.tup [.int st,.int en])):=au ht _;refine⟨by rw[ah,gU];rfl,?_,bQ hq0 (s.trans s1) (aK q _ _)⟩;refine bN.snoc ((hb.same s1).keep (s1 _ _ eK) (aK q _ _)) ?_;show aM _ q _ t=_;rw[aG VB.symm,ah]
theorem turned{H0 H2:Hp}{q t a:Addr}{bs:List Addr}{row:Row}{st en:Int}(hq0:H0 q=none)(s:aJ H0 H2)(eK:H2 q=⇑(.lst (bs.map V.ref++[↥a])))(hb:bN H2 bs row)(ht:H2 t=none) :
  (aM (aM H2 t (.tup [.int st,.int en])) q (.lst ((bs.map V.ref++[V.ref a]).set ↑bs (V.ref t)))) q=⇑(.lst ((bs++[t]).map V.ref))/\
  bN (aM (aM H2 t (.tup [.int st,.int en])) q (.lst ((bs.map V.ref++[V.ref a]).set ↑bs (V.ref t)))) (bs++[t]) (row++[(st,en)])/\aJ H0 (aM (aM H2 t (.tup [.int st,.int en])) q (.lst ((bs.map V.ref++[V.ref a]).set ↑bs (V.ref t)))):=by
 have VB:q≠t:=az eK ht;have s1:aJ H2 (aM H2 t (.tup [.int st,.int en])):=au ht _
 have e:(bs.map V.ref++[V.ref a]).set ↑bs (V.ref t)=(bs++[t]).map V.ref:=by
  have z:=zC (bs.map V.ref) (V.ref a) (V.ref t);rw[cy]at z;rw[z,gU];rfl
 rw[e];refine⟨ah,?_,bQ hq0 (s.trans s1) (aK q _ _)⟩;refine bN.snoc ((hb.same s1).keep (s1 _ _ eK) (aK q _ _)) ?_;show aM _ q _ t=_;rw[aG VB.symm,ah]
def N3(bs:List Addr)(a:Addr):JI ↑(bs.map V.ref++[V.ref a]) (-1)=some ↑bs:=by
 rw[cX,cy,qy];exact zB _
theorem Lq{f:Row->Int × Int->Row}{row:Row}{i:Nat}{p:Int × Int}(h:row[i]?=⇑p):(row.take (i+1)).foldl f []=f ((row.take i).foldl f []) p:=foldl_take_succ f row [] i p h
def E7(row:Row):∀ t:Row,↑(row.foldl d7 t)<=↑t+↑row:=by
 induction row with
 | nil=>intro t;simp
 | cons p row ih =>
  intro t;have h1:=ih (d7 t p)
  have h2:↑(d7 t p)<=↑t+1:=by
   unfold d7;split
   ·lia
   ·exact xW _ _ _
  rw[m7,kX];lia
def zF(ns:List Int):∀ t:Row,↑(ns.foldl (λt n=>jk t n (n+1)) t)<=↑t+↑ns:=by
 induction ns with
 | nil=>intro t;simp
 | cons n ns ih =>
  intro t;have h1:=ih (jk t n (n+1));have h2:=xW t n (n+1);rw[m7,kX];lia
end gG
namespace gG
open Spec Rows L2 cO
class inductive VC
 | mk (r:Addr) (row:Row) (_:vs=[↥r]) (_:cB H r row) (_:↑row<=1000000) (_: ∀ H',aJ H H'->Q (.int (jP row)) H')
end gG
namespace dX
open Spec Rows PySem.W L2
def Zr(h:Heap)(e:Addr)(d:Option Addr):Prop:=∃ o,h.get? e=⇑o/\o.dict=d/\o.slots=#[]
def JW(f:Array Value->Array Value)(o:Obj):(Obj.mapFields f o).dict=o.dict/\(Obj.mapFields f o).slots=o.slots:=by
 let⟨c,d,x,sl⟩:=o
 cases x <;> exact⟨V⟩
section
variable {M:Model} {A:Around} {E:Value->Shared->Prop} {s:Shared} {bH:Heap} {env:Env} {zn l:List Env} {L e:Addr} {cls a0 fl:Value} {d:Option Addr} {Q:Unit->Shared->Prop}
structure iT(bH:Heap)(l:List Env)(e:Addr)(cls a0 fl:Value)(d:Option Addr)(h:Heap):Prop where
 st:bH.StaysIn h
 new:bH.get? e=none
 fr:h.FunFrames bH l
 tr:h.TracedAtW bH e cls a0 fl
 dc:Zr h e d
theorem Zs{T:Addr}{oe oT:Obj}{vs ts:Array Value}{x:Value}(k:iT bH l e cls a0 fl d s.heap)(he:s.heap.get? e=⇑oe)(hc:oe.cls=cls/\vs[0]?=⇑a0)(hf:oe.data=.fields vs)(h1:vs[1]?=⇑↥T)(nT:bH.get? T=none)(ne:T≠e)(hT:s.heap.get? T=⇑oT)(hg:oT.data=.fields ts)(h3:ts[3]?=⇑fl)
  (q:∀ h',iT bH l e cls a0 x d h'->(∀ o,s.heap.get? e=⇑o->h'.get? e=⇑o)->s.heap.UpToSlots h'->Q () { s with heap:=h' }):wpAny M A (setField ↥T 3 x) Q E s:=by
 have z:=(Array.getElem?_eq_some_iff.mp h3).1;have ot:∀ {b:Addr} {o:Obj},s.heap.get? b=⇑o->b≠T->(s.heap.update T (Obj.mapFields (·.setIfInBounds 3 x))).get? b=⇑o:=λq n=>(Heap.get?_update_other _ _ n.symm).trans q
 have nr:∀ {b:Addr} {o:Obj},s.heap.get? b=⇑o->(∀ vs,o.data≠.fields vs)->b≠T:=λq m y=>by
  rw[y,hT]at q;cases q;exact m ts hg
 let⟨k1,k2,k3,_,o1,q1,q2⟩:=k;exact wpAny_setField hT hg z (q _ ⟨λb o q=>ot (k1 b o q) (λy=>by rw[y,nT]at q;cases q),k2,k3.of_keeps λb o q m=>⟨o,ot q (nr q m),rfl⟩,⟨oe,vs,T,P,ot he ne.symm,hc,hf,h1,nT,ne,Heap.get?_update_self _ hT (Obj.isFreed_of_fields (Obj.data_mapFields hg _)),Obj.data_mapFields hg _,by simp[z]⟩,o1,ot q1 ne.symm,q2⟩ (λo q=>ot q ne.symm) λb o q m=>⟨o.slots,ot q (nr q m)⟩)
def E8(k:iT bH l e cls a0 fl d s.heap)(q:∀ h',iT bH l e cls a0 .none d h'->s.heap.UpToSlots h'->Q () { s with heap:=h' }):wpAny M A (setFlight ↥e none) Q E s:=by
 let⟨oe,vs,T,oT,ts,he,hc,hf,h1,nT,ne,hT,hg,h3⟩:=k.tr;unfold setFlight;refine wpAny_bind (wpAny_field he hf h1 ?_);rw[if_pos (show (Value.ref T != Value.none)=true by simp)];exact Zs k he hc hf h1 nT ne hT hg h3 λh' a _ b=>q h' a b
theorem Zt{oe:Obj}{vs:Array Value}{VD:Value}{b:Bool}(fr:A.frames=⇑(env::zn))(fl:env.frame=⇑L)(k1:bH.StaysIn s.heap)(k2:bH.get? e=none)(k3:s.heap.FunFrames bH (env::zn))(he:s.heap.get? e=⇑oe)(hs:oe.slots=#[])(hf:oe.data=.fields vs)(hz:1<vs.size)(h0:vs[0]?=⇑a0)
  (q:∀ h',iT bH (env::zn) e oe.cls a0 (rawInt L) oe.dict h'->s.heap.UpToSlots h'->Q () { s with heap:=h' }) :
  wpAny M A (do let a ← frameOf env;let pl ← entryPlaceOf L b;let c ← EntryCells.newEntry VD a .none (rawInt L) .none pl;setField ↥e 1 c) Q E s:=by
 refine wpAny_bind (wpAny_frameOf_fun fr k3 fl λg ⟨_,g1,g2⟩=>wpAny_bind (wpAny_entryPlaceOf λpl sN=>?_));unfold EntryCells.newEntry newFields;refine wpAny_bind (wpAny_newObj_type ?_ (sN.sizeOk5 _ _ _ _ _));have heg:g.get? e=⇑oe:=(g1 e λm=>by let⟨_,o,q,z⟩:=k3.mem m;rw[he]at q;cases q;exact z vs hf).trans he;have kg:bH.StaysIn g:=λb o q=>(g1 b λm=>by rw[(k3.mem m).1]at q;cases q).trans (k1 b o q);obtain⟨ts,ht,h3⟩:∃ ts:Array Value,([VD,↥L,.none,rawInt L,.none]++(if pl.isEmpty then List.replicate 6 Value.none else pl)).toArray=ts/\ts[3]?=⇑(rawInt L):=⟨Y,by simp⟩;show wpAny M A (setField ↥e 1 ↥g.objs.size) Q E { s with heap:=g.push { cls:=.type "traceback",dict:=none,data:=.fields ([VD,↥L,.none,rawInt L,.none]++(if pl.isEmpty then List.replicate 6 Value.none else pl)).toArray } };rw[ht];have hT:=Heap.get?_push_size g (o:={ cls:=.type "traceback",dict:=none,data:=.fields ts }) rfl;have up:∀ {b:Addr} {o:Obj},g.get? b=⇑o->(g.push { cls:=.type "traceback",dict:=none,data:=.fields ts }).get? b=⇑o:=λq=>Heap.get?_push_of_some _ q;have ne:g.objs.size≠e:=Nat.ne_of_gt (Heap.lt_size heg);generalize g.push { cls:=.type "traceback",dict:=none,data:=.fields ts }=g' at hT up ⊢;have ot:∀ {b:Addr} {o:Obj},g'.get? b=⇑o->b≠e->(g'.update e (Obj.mapFields (·.setIfInBounds 1 ↥g.objs.size))).get? b=⇑o:=λq n=>(Heap.get?_update_other _ _ n.symm).trans q
 have nr:∀ {b:Addr} {o:Obj},s.heap.get? b=⇑o->(∀ vs,o.data≠.fields vs)->b≠e:=λq m y=>by
  rw[y,he]at q;cases q;exact m vs hf
 refine wpAny_setField (up heg) hf hz (q _ ?_ λb o w m=>?_)
 ·have hd:=Obj.data_mapFields hf (·.setIfInBounds 1 (Value.ref g.objs.size));have hu:=Heap.get?_update_self (Obj.mapFields (·.setIfInBounds 1 (Value.ref g.objs.size))) (up heg) (Obj.isFreed_of_fields hd);refine⟨λb o q=>ot (up (kg b o q)) (λy=>by rw[y,k2]at q;cases q),k2,k3.of_keeps λb o q m=>?_,⟨P,g.objs.size,_,ts,hu,⟨Obj.cls_mapFields _ _,by rw[Array.getElem?_setIfInBounds_ne (by decide)];exact h0⟩,hd,by simp[hz],kg.fresh,ne,ot hT ne,rfl,h3⟩,_,hu,(JW _ _).1,(JW _ _).2.trans hs⟩;let⟨sl,y⟩:=g2 b o q;exact⟨_,ot (up y) (nr q m),rfl⟩
 ·let⟨sl,y⟩:=g2 b o w;exact⟨sl,ot (up y) (nr w m)⟩
def T8(fr:A.frames=⇑(env::zn))(hl:env.frame=⇑L)(k:iT bH (env::zn) e cls a0 .none d s.heap)(q:∀ h',iT bH (env::zn) e cls a0 (rawInt L) d h'->s.heap.UpToSlots h'->Q () { s with heap:=h' }):wpAny M A (noteFrame ↥e env) Q E s:=by
 let⟨oe,vs,T,oT,ts,he,⟨hc,h0⟩,hf,h1,nT,ne,hT,hg,h3⟩:=k.tr;unfold noteFrame;simp only[hl];refine wpAny_bind (wpAny_field he hf h1 ?_);rw[if_pos (show (Value.ref T != Value.none)=true by simp)];refine wpAny_bind (wpAny_field hT hg h3 ?_);rw[if_neg (by simp[rawInt])];refine wpAny_bind (Zs (x:=.none) k he ⟨hc,h0⟩ hf h1 nT ne hT hg h3 λh' a kp u=>?_);let⟨o1,q1,q2,q3⟩:=k.dc;rw[he]at q1;cases q1;subst hc;subst q2;exact Zt (s:={ s with heap:=h' }) fr hl a.st a.new a.fr (kp _ he) q3 hf (Array.getElem?_eq_some_iff.mp h1).1 h0 λh2 b v=>q h2 b (u.trans v)
theorem VE{oe:Obj}{vs:Array Value}(fr:A.frames=⇑(env::zn))(hl:env.frame=⇑L)(k1:bH.StaysIn s.heap)(k2:bH.get? e=none)(k3:s.heap.FunFrames bH (env::zn))(he:s.heap.get? e=⇑oe)(hs:oe.slots=#[])(hf:oe.data=.fields vs)(h1:vs[1]?=⇑.none)(h0:vs[0]?=⇑a0)
  (q:∀ h',iT bH (env::zn) e oe.cls a0 (rawInt L) oe.dict h'->s.heap.UpToSlots h'->Q () { s with heap:=h' }):wpAny M A (noteFrame ↥e env) Q E s:=by
 unfold noteFrame;simp only[hl];refine wpAny_bind (wpAny_field he hf h1 ?_);rw[if_neg (by decide)];exact Zt fr hl k1 k2 k3 he hs hf (Array.getElem?_eq_some_iff.mp h1).1 h0 q
theorem iT.out(k:iT bH (env::zn) e cls a0 fl d s.heap):iT bH zn e cls a0 fl d s.heap:=⟨k.st,k.new,k.fr.2.2,k.tr,k.dc⟩
theorem JX{oe:Obj}{vs:Array Value}(fr:A.frames=⇑(env::zn))(hl:env.frame=⇑L)(k1:bH.StaysIn s.heap)(k2:bH.get? e=none)(k3:s.heap.FunFrames bH (env::zn))(he:s.heap.get? e=⇑oe)(hs:oe.slots=#[])(hf:oe.data=.fields vs)(h1:vs[1]?=⇑.none)(h0:vs[0]?=⇑a0)
  (q:∀ h',iT bH zn e oe.cls a0 .none oe.dict h'->s.heap.UpToSlots h'->Q () { s with heap:=h' }):wpAny M A (leaving env ↥e) Q E s :=
 wpAny_bind (VE fr hl k1 k2 k3 he hs hf h1 h0 λh1 a u=>E8 (s:={ s with heap:=h1 }) a λh2 b v=>q h2 (iT.out (s:={ s with heap:=h2 }) b) (u.trans v))
theorem VF(fr:A.frames=⇑(env::zn))(hl:env.frame=⇑L)(k:iT bH (env::zn) e cls a0 .none d s.heap)(q:∀ h',iT bH zn e cls a0 .none d h'->s.heap.UpToSlots h'->Q () { s with heap:=h' }):wpAny M A (leaving env ↥e) Q E s :=
 wpAny_bind (T8 fr hl k λh1 a u=>E8 (s:={ s with heap:=h1 }) a λh2 b v=>q h2 (iT.out (s:={ s with heap:=h2 }) b) (u.trans v))
def iT.there{h:Heap}(k:iT bH l e cls a0 fl d h):∃ ob,h.get? e=⇑ob/\ob.cls=cls:=by
 let⟨oe,_,_,_,_,he,hc,_⟩:=k.tr;exact⟨oe,he,hc.1⟩
end
end dX
namespace dX
open Spec Rows PySem.W L2
section
variable {P:Program} {w:World} {H H':Hp} {h h0 g:Heap} {a T:Addr} {C a0:Value} {d:Option Addr} {o:HO}
def Rg(x:cV P w H h a o):∃ u,h.get? a=⇑u:=by
 cases o with
 | lst xs=>let⟨_,_,_,_,e⟩:=x;exact⟨_,e⟩
 | tup xs=>let⟨_,_,_,_,e,_⟩:=x;exact⟨_,e⟩
 | dK kvs=>let⟨_,_,_,_,_,_,_,e,_⟩:=x;exact⟨_,e⟩
 | dT kvs=>let⟨_,_,_,_,_,_,_,e,_⟩:=x;exact⟨_,e⟩
 | set S n=>let⟨_,_,_,_,e,_⟩:=x;exact⟨_,e⟩
 | ins C dx fs=>let⟨_,_,_,e,_⟩:=x;exact⟨_,e⟩
 | own y=>exact x
 | xd fs=>let⟨_,⟨_,_,_,e,_⟩,_⟩:=x;exact⟨_,e⟩
 | AV lo hi=>let⟨_,_,_,e⟩:=x;exact⟨_,e⟩
 | Hi ob u=>exact⟨_,x.1⟩
 | Qv ps=>exact⟨_,x⟩
 | met f y=>exact⟨_,x⟩
 | ext φ=>exact x.2.1
def pM(x:oH P w H h){b:Addr}(e:h.get? b=none):H b=none:=by
 cases q:H b with
 | none=>rfl
 | some u =>
  let⟨z,hz⟩:=Rg (x b u q);rw[e]at hz;cases hz
def B3{l:List Addr}{b:Addr}(e:(hideAll h l).get? b=none):b∈l\/h.get? b=none:=by
 by_cases hb:b∈l
 ·exact .inl hb
 ·right
  cases q:h.get? b with
  | none=>rfl
  | some u=>rw[hideAll_get l q hb]at e;cases e
def Fly(h0:Heap)(H:Hp)(h:Heap)(a T:Addr)(C a0:Value)(d:Option Addr):Prop :=
 (Zr h a d/\∃ oe vs oT ts,h.get? a=⇑oe/\(oe.cls=C/\vs[0]?=⇑a0)/\oe.data=.fields vs/\vs[1]?=⇑↥T/\T≠a/\h.get? T=⇑oT/\oT.data=.fields ts/\ts[3]?=⇑.none)/\(H a=none/\H T=none)/\h0.get? a=none/\h0.get? T=none
theorem u9{fs hd:List Addr}{l':List Env}(u:Un fs [] H H' h0 h)(hok:oH P w H' h)(h1:∀ b o,h0.get? b=⇑o->b∉fs->b∉hd)(h2:∀ b∈hd,H' b=none)
  (h3:∀ b∈fs,∃ o,h.get? b=⇑o/\∀ vs,o.data≠.fields vs) (h4:∀ b∈hd,h0.get? b=none\/∃ o,h.get? b=⇑o/\∀ vs,o.data≠.fields vs)
  (ha:h0.get? a=none) (ha':H' a=none) (f:iT (hideAll h hd) l' a C a0 .none d g) (k:h.UpToSlots g) :
  Un fs [] H H' h0 g/\oH P w H' g/\∃ T,Fly h0 H' g a T C a0 d:=by
 have nil:∀ b:Addr,b∉([]:List Addr):=λb=>List.not_mem_nil;have kp:∀ b o,h.get? b=⇑o->b∉hd->g.get? b=⇑o:=λb o e n=>f.st b o (hideAll_get hd e n);refine⟨⟨λb o e n hb _=>kp b o (u.keep b o e n hb (nil b)) (h1 b o e hb),λb o e n hb _=>?_,λb o e n _=>u.free b o e n (nil b),λb o e _=>?_,u.tups,u.tM,u.uL⟩,λb o e=>?_,?_⟩
 ·let⟨sl,e1⟩:=u.slot b o e n hb (nil b);let⟨o',e2,nf⟩:=h3 b hb;let⟨sl',e3⟩:=k b o' e2 nf;rw[e1]at e2;cases e2;exact⟨sl',e3⟩
 ·by_cases hb:b∈fs
  ·let⟨o',e2,nf⟩:=h3 b hb;let⟨sl',e3⟩:=k b o' e2 nf;exact⟨_,e3⟩
  ·let⟨o',e1⟩:=u.there b o e (nil b);exact⟨o',kp b o' e1 (h1 b o e hb)⟩
 ·refine (hok b o e).stay (λc v hc q=>kp c v q λhm=>?_) (λ_ q=>q) λ_ _ q=>q;have hn:=h2 c hm;rcases hc with rfl|hc
  ·rw[e]at hn;cases hn
  ·rw[hc]at hn;cases hn
 ·let⟨_,_,_,⟨oe,vs,T,oT,ts,e1,e2,e3,e4,e5,e6,e7,e8,e9⟩,dc⟩:=f;exists T,⟨dc,oe,vs,oT,ts,e1,e2,e3,e4,e6,e7,e8,e9⟩,⟨ha',?_⟩,ha
  ·rcases B3 e5 with hm|hn
   ·exact h2 T hm
   ·exact pM hok hn
  ·rcases B3 e5 with hm|hn
   ·rcases h4 T hm with z|⟨o,eo,nf⟩
    ·exact z
    ·let⟨sl,eg⟩:=k T o eo nf;rw[e7]at eg;cases eg;exact absurd e8 (nf ts)
   ·cases q:h0.get? T with
    | none=>rfl
    | some o =>
     let⟨o',eo⟩:=u.there T o q (nil T);rw[hn]at eo;cases eo
def zG{zt:Heap}{l:List Env}(F:Fly h0 H h a T C a0 d)(S:h.FunFrames zt l):iT (hideAll h (a::T::m8 l)) l a C a0 .none d h:=by
 let⟨⟨dc,oe,vs,oT,ts,e1,e2,e3,e4,e5,e6,e7,e8⟩,_,_⟩:=F;refine⟨λb o e=>of_hideAll _ e,hideAll_none _ (tL),funFrames_hide S λenv he b hb=>?_,⟨oe,vs,T,oT,ts,e1,e2,e3,e4,?_,e5,e6,e7,e8⟩,dc⟩
 ·exact oE _ (oE _ (List.mem_filterMap.mpr ⟨env,he,hb⟩))
 ·exact hideAll_none _ (oE _ tL)
end
def Es(P:Program)(w:World):K9:=λzn H s E e s'=>∃ a T C a0 d H',e=↥a/\(s'.os=s.os/\AllBare s'.gens)/\Un (m8 zn) [] H H' s.heap s'.heap/\oH P w H' s'.heap/\Fly s.heap H' s'.heap a T C a0 d/\E C d H'
section
variable {X:Cx} {ak:List (Addr × Obj)} {σ:L2.St} {H H1:Hp} {s s':Shared} {a T:Addr} {C a0:Value} {d:Option Addr}
def Ia(uM:X.stack=X.env::X.zn)(hf:X.env.frame=⇑X.env.locals):m8 X.stack=X.env.locals::X.fs:=by
 rw[uM];unfold m8;rw[List.filterMap_cons,hf];rfl
theorem nX(I:Inv X ak σ H s):∀ b∈m8 X.stack,∃ o,s.heap.get? b=⇑o/\∀ vs,o.data≠.fields vs:=λb hb=>(I.stack.mem hb).2
theorem zH{l':List Env}{g:Heap}(I:Inv X ak σ H s)(os:s'.os=s.os)(bare:AllBare s'.gens)(u:Un (m8 X.stack) [] H H1 s.heap s'.heap)(hok:oH X.prog X.w H1 s'.heap)(F:Fly s.heap H1 s'.heap a T C a0 d)
  (f:iT (hideAll s'.heap (a::T::m8 X.stack)) l' a C a0 .none d g) (k:s'.heap.UpToSlots g):Inv X ak σ H1 { s' with heap:=g }:=by
 have I1:Inv X ak σ H1 s':=I.EA (ch:=[]) os u hok bare (λb z=>absurd z (by simp));let⟨_,⟨na,nT⟩,sa,sT⟩:=id F
 have p1:∀ b o,s.heap.get? b=⇑o->b∉m8 X.stack->b∉a::T::m8 X.stack:=λb o e hb hm=>by
  rcases List.mem_cons.mp hm with rfl|hm
  ·rw[sa]at e;cases e
  rcases List.mem_cons.mp hm with rfl|hm
  ·rw[sT]at e;cases e
  ·exact hb hm
 have p2:∀ b∈a::T::m8 X.stack,H1 b=none:=λb hm=>by
  rcases List.mem_cons.mp hm with rfl|hm
  ·exact na
  rcases List.mem_cons.mp hm with rfl|hm
  ·exact nT
  ·exact I1.rJ b hm
 have p4:∀ b∈a::T::m8 X.stack,s.heap.get? b=none\/∃ o,s'.heap.get? b=⇑o/\∀ vs,o.data≠.fields vs:=λb hm=>by
  rcases List.mem_cons.mp hm with rfl|hm
  ·exact .inl sa
  rcases List.mem_cons.mp hm with rfl|hm
  ·exact .inl sT
  ·exact .inr (nX I1 b hm)
 let⟨u',CZ,_⟩:=u9 (hd:=a::T::m8 X.stack) u hok p1 p2 (nX I1) p4 sa na f k;exact I.EA (s':={ s' with heap:=g }) (ch:=[]) os u' CZ bare (λb z=>absurd z (by simp))
end
section
variable {P:Program} {w:World} {K:PySem.W.Frag} {mg:Str->Option Value} {zt:Heap} {N:List Str} {cE:Str} {scope:Scope} {f:Addr} {cd:Value} {A:Around} {zn:List Env} {s:Shared} {H:Hp} {E:XK}
abbrev Dd(P:Program)(w:World)(K:PySem.W.Frag)(mg:Str->Option Value)(zt:Heap)(N:List Str)(cE:Str)(scope:Scope)(f:Addr)(cd:Value)(A:Around)(zn:List Env)(s:Shared)(H:Hp)(E:XK):Cx :=
 EO (Es P w) P w K mg zt N cE scope f cd A zn s H E
def JY:jz (Es P w) (Dd P w K mg zt N cE scope f cd A zn s H E) E:=by
 intro ak σ H1 s1 e s' I h;let⟨a,T,C,a0,d,H',rfl,⟨os,bare⟩,u,hok,F,q⟩:=h;have I1:Inv (Dd P w K mg zt N cE scope f cd A zn s H E) ak σ H' s':=I.EA (ch:=[]) os u hok bare (λb z=>absurd z (by simp));let⟨_,⟨na,nT⟩,sa,sT⟩:=id F
 have old:∀ b,s1.heap.get? b=none->s.heap.get? b=none:=λb e=>by
  cases z:s.heap.get? b with
  | none=>rfl
  | some o =>
   let⟨o',e'⟩:=I.zt.there b o z (λm=>absurd (show b∈([]:List Addr) from m) (by simp));rw[e]at e';cases e'
 refine VF (bH:=hideAll s'.heap (a::T::m8 (Dd P w K mg zt N cE scope f cd A zn s H E).stack)) I.ok.frames rfl (zG F I1.stack) λg fl k=>?_
 have p1:∀ b o,s.heap.get? b=⇑o->b∉m8 zn->b∉a::T::m8 (Dd P w K mg zt N cE scope f cd A zn s H E).stack:=λb o e hb hm=>by
  rcases List.mem_cons.mp hm with rfl|hm
  ·rw[old b sa]at e;cases e
  rcases List.mem_cons.mp hm with rfl|hm
  ·rw[old b sT]at e;cases e
  ·rw[Ia rfl rfl]at hm;rcases List.mem_cons.mp hm with rfl|hm
   ·exact absurd (Heap.lt_size e) (Nat.not_lt.mpr I.ok.above)
   ·exact hb hm
 have p2:∀ b∈a::T::m8 (Dd P w K mg zt N cE scope f cd A zn s H E).stack,H' b=none:=λb hm=>by
  rcases List.mem_cons.mp hm with rfl|hm
  ·exact na
  rcases List.mem_cons.mp hm with rfl|hm
  ·exact nT
  ·exact I1.rJ b hm
 have p4:∀ b∈a::T::m8 (Dd P w K mg zt N cE scope f cd A zn s H E).stack,s.heap.get? b=none\/∃ o,s'.heap.get? b=⇑o/\∀ vs,o.data≠.fields vs:=λb hm=>by
  rcases List.mem_cons.mp hm with rfl|hm
  ·exact .inl (old b sa)
  rcases List.mem_cons.mp hm with rfl|hm
  ·exact .inl (old b sT)
  ·exact .inr (nX I1 b hm)
 let⟨u',CZ,T',F'⟩:=u9 (h0:=s.heap) (fs:=m8 zn) (hd:=a::T::m8 (Dd P w K mg zt N cE scope f cd A zn s H E).stack) I1.zt hok p1 p2 (λb hb=>(I1.qD.mem hb).2) p4 (old a sa) na fl k;exact⟨a,T',C,a0,d,H',rfl,⟨I1.os,bare⟩,u',CZ,F',q⟩
def N4(X:Cx)(E:XK):Prop:=∀ (ak:List (Addr × Obj)) (σ:L2.St) (H:Hp) (s:Shared) (h':Heap) (e:Addr) (C:Value) (args:List Value),Inv X ak σ H s->Heap.MadeExcOf s.heap h' e C args->E C none H->X.xe ↥e { s with heap:=h' }
def VG:N4 (Dd P w K mg zt N cE scope f cd A zn s H E) E:=by
 intro ak σ H1 s1 h' e C args I M q
 have old:∀ b,s1.heap.get? b=none->s.heap.get? b=none:=λb e=>by
  cases z:s.heap.get? b with
  | none=>rfl
  | some o =>
   let⟨o',e'⟩:=I.zt.there b o z (λm=>absurd (show b∈([]:List Addr) from m) (by simp));rw[e]at e';cases e'
 let⟨t,he,_,_⟩:=M.there;have st:(hideAll s1.heap (m8 (Dd P w K mg zt N cE scope f cd A zn s H E).stack)).StaysIn h':=λb o e=>M.keeps _ _ (of_hideAll _ e)
 refine JX (s:={ s1 with heap:=h' }) (bH:=hideAll s1.heap (m8 (Dd P w K mg zt N cE scope f cd A zn s H E).stack)) (a0:=↥t) I.ok.frames rfl st (by
  cases z:(hideAll s1.heap (m8 (Dd P w K mg zt N cE scope f cd A zn s H E).stack)).get? e with
  | none=>rfl
  | some o=>have y:=of_hideAll _ z;rw[M.new]at y;cases y) ((funFrames_hide I.stack λenv he b hb=>List.mem_filterMap.mpr ⟨env,he,hb⟩).of_keeps λb o q _=>⟨o,M.keeps _ _ q,rfl⟩) he rfl rfl rfl rfl λg fl k=>?_
 have k1:s1.heap.UpToSlots g:=(Heap.UpToSlots.of_keeps M.keeps).trans k
 have p1:∀ b o,s.heap.get? b=⇑o->b∉m8 zn->b∉m8 (Dd P w K mg zt N cE scope f cd A zn s H E).stack:=λb o e hb hm=>by
  rw[Ia rfl rfl]at hm;rcases List.mem_cons.mp hm with rfl|hm
  ·exact absurd (Heap.lt_size e) (Nat.not_lt.mpr I.ok.above)
  ·exact hb hm
 let⟨u',CZ,T',F'⟩:=u9 (h0:=s.heap) (fs:=m8 zn) (hd:=m8 (Dd P w K mg zt N cE scope f cd A zn s H E).stack) I.zt I.hok p1 (λb hm=>I.rJ b hm) (λb hb=>(I.qD.mem hb).2) (λb hm=>.inr (nX I b hm)) (old e M.new) (pM I.hok M.new) fl k1;exact⟨e,T',C,↥t,none,H1,rfl,⟨I.os,I.bare⟩,u',CZ,F',q⟩
theorem okX{x cE:Str}{st:Stmt}{f:Addr}{N ps:List Str}{k:Nat}{sp:Sp}(F:NG K x cE st f fd)(S:aH N ps (aB st))(len:∀ vs H Q E,sp vs H Q E->↑vs=↑ps)
  (uQ:∀ (cJ:Value) (A:Around) (zn:List Env) (s:Shared) (H:Hp) (vs:List V) (Q:VK) (E:XK),gT k (A.deeper (envOfC cE (aB st) s.heap.objs.size f cJ))->sp vs H Q E->
   ∃ t,CK (Dd P w K mg zt N cE (aB st) f cJ A zn s H E) (iJ st) t/\t { nx:=λ_ H'=>Q .fV H',rt:=Q } (start N vs) H):aY P w K mg zt (Es P w) (k+1) f fd ps sp:=by
 let⟨oc,od,kV,wg,pm,an,cJ,ct,Lb,rfl,lk,KP⟩:=F.ex;exact TY lk KP S len λA zn s H vs Q E hr Hz=>uQ cJ A zn s H vs Q E hr Hz
end
section
variable {X:Cx}
def Rh{K:Frag}{h:Heap}{C:Addr}{Er:List Value}{jq:String}{x:Str}{mg:Str->Option Value}(I:K.In h)(m:mg x=⇑↥C)(q:excIn K C Er jq=true):OwnCls x C Er jq mg h:=by
 exists m;unfold excIn at q;split at q
 case h_2=>cases q
 rename_i dd cd sl ho;split at q
 case h_2=>cases q
 rename_i c1 bm k0 k1 k2 k3 n k5 hm hs;simp only[Bool.and_eq_true,beq_iff_eq,Bool.not_eq_true']at q;let⟨⟨⟨⟨⟨e1,e2⟩,VH⟩,ht⟩,Nl⟩,hni⟩:=q;cases e1;cases e2
 cases cd with
 | mk nm bs mro ns qn hd sn sub ab col del =>
  cases hm;cases VH
  cases sl with
  | mk l =>
   have Zu:l=[k0,k1,k2,k3,⇑(.builtin jq),k5]:=hs;subst Zu;exact⟨bm,ns,nm,qn,bs,hd,sn,sub,ab,col,dd,k0,k1,k2,k3,k5,_,I _ _ ho,.of_isNs (isNs_of_in I Nl),nsMap_none_of_in I Nl hni,tail_of_in I ht⟩
def VI(C:Addr)(E:XK)(t:TA):TS:=λ_ σ H=>t σ H λvs H1=>↑vs<=sizeLine/\E ↥C none H1
theorem N5{E:XK}{x:Str}{C:Addr}{Er:List Value}{jq uo B:String}{e:Expr}{es:List Expr}{t:TA}{np pos:Pos}(FB:ExcBaseFacts B jq uo Er)(hx:excIn X.K C Er jq=true)(hm:X.mg x=⇑↥C)(hc:X.calm=true)(hr:N4 X E)
  (ha:PA X (e::es) t) (hg:Gl X x:=by rfl) (AX:(x == ("__debug__":Str))=false:=by decide) (he:starEach (e::es) X.env=(false,eval e X.env)::starEach es X.env:=by rfl) (sN:(backTo iU (starEach es X.env)).any (·.1)=false:=by rfl) :
  PS X (.Raise (⇑(.Call (.Name x np) (e::es) [] iU)) none pos) (VI C E t):=by
 intro ak s σ H D I h;let⟨tl,Nd,c1,c2,c3,c4,c5,c6,c7,c8,c9,d0,d1,d2,d3,d5,mN,hC,hN,hni,T⟩:=(Rh I.mod.UP hm hx).obj;refine wpAny_Raise_call_subT (nm:=c1) (q:=c2) (N:=Nd) (bs:=c3) (hdct:=c4) (sn:=c5) (sub:=c6) (ab:=c7) (col:=c8) (dd:=c9) (k0:=d0) (k1:=d1) (k2:=d2) (k3:=d3) (k5:=d5) FB (T.hasType FB.hasBase) (I.ok.hd hc) (by rw[he];show (false || (backTo iU (starEach es X.env)).any (·.1))=false;rw[sN];rfl) hni (mQ I hg hm ⟨rfl,?_⟩ AX);rw[he];have hw:=ha iU ak s σ H _ I h;rw[he]at hw;refine Calls.evalArgs_plain (cI hw λus s1 CM=>?_);let⟨vs,H1,I1,r,q1,q2⟩:=CM;exact⟨rfl,by rw[← ↑r];exact q1,I1.bk _ _ hC,hN.keeps I1.bk,T.keeps I1.bk,λh' e M=>hr ak σ H1 s1 h' e _ _ I1 M q2⟩
end
section
variable {X:Cx} {x:Str} {st:Stmt} {ps:List Str} {f:Addr} {fd:FuncData} {j k:Nat} {sp:Sp} {e:Expr} {es:List Expr} {t:TA} {p pos:Pos} {E:XK}
theorem Ri(d:gG.bX X.K X.mg x st ps f fd)(G:aY X.prog X.w X.K X.mg X.zt (Es X.prog X.w) k f fd ps sp)(hr:gT j X.A)(hx:jz (Es X.prog X.w) X E)
  (ha:PA X (e::es) t) (Q0:k<=j:=by first|decide|lia) (hg:Gl X x:=by rfl) (AX:(x == ("__debug__":Str))=false:=by decide) (he:starEach (e::es) X.env=(false,eval e X.env)::starEach es X.env:=by rfl)
  (sN:(backTo pos (starEach es X.env)).any (·.1)=false:=by rfl):PE X (.Call (.Name x p) (e::es) [] pos) (EN sp [] E t) :=
 CQ G (hr.mono Q0) hg d.m d.F.kp d.b .nil hx ha AX he sN
end
abbrev T9(X:Cx)(a:Addr):Cx:={ X with A:=X.A.mark (⇑↥a),calm:=false,xe:=λ_ _=>False }
section
variable {X:Cx} {ak:List (Addr × Obj)} {σ:L2.St} {H:Hp} {s:Shared} {a:Addr}
theorem okH(ok:X.Ok)(a:Addr):(T9 X a).Ok :=
 { mod:=ok.mod,kind:=ok.kind,glob:=ok.glob,blt:=ok.blt,above:=ok.above,inj:=ok.inj,has:=ok.has,UQ:=ok.UQ,hd:=λz=>(gE z).elim,frames:=ok.frames,stk:=ok.stk,exf:=ok.exf,bs:=ok.bs,Qi:=ok.Qi,Hl:=ok.Hl,KN:=ok.KN,qD:=ok.qD,Qx:=ok.Qx }
theorem inH(I:Inv X ak σ H s)(a:Addr):Inv (T9 X a) ak σ H s:={ ok:=okH I.ok a,os:=I.os,bare:=I.bare,zt:=I.zt,loc:=I.loc,cell:=I.cell,free:=I.free,j7:=I.j7,pin:=I.pin,hok:=I.hok,len:=I.len }
theorem Rj(ok:X.Ok)(I:Inv (T9 X a) ak σ H s):Inv X ak σ H s:={ ok:=ok,os:=I.os,bare:=I.bare,zt:=I.zt,loc:=I.loc,cell:=I.cell,free:=I.free,j7:=I.j7,pin:=I.pin,hok:=I.hok,len:=I.len }
def spH(ok:X.Ok){D:Ends}{f:Flow}{s':Shared}(h:SP (T9 X a) ak D f s'):SP X ak D f s':=by
 cases f with
 | next=>let⟨σ',H',I,q⟩:=h;exact⟨σ',H',Rj ok I,q⟩
 | brk=>let⟨σ',H',I,q⟩:=h;exact⟨σ',H',Rj ok I,q⟩
 | cont=>let⟨σ',H',I,q⟩:=h;exact⟨σ',H',Rj ok I,q⟩
 | ret u=>let⟨v,σ',H',I,r,q⟩:=h;exact⟨v,σ',H',Rj ok I,r,q⟩
variable {x y:Str} {st:Stmt} {ps:List Str} {f:Addr} {fd:FuncData} {j k:Nat} {sp:Sp} {e:Expr} {es:List Expr} {t:TA} {p pos ajM Lr ajN np Zv:Pos} {C Cy:Addr} {b0:Stmt} {ahH:List Stmt} {tb:TS}
end
end dX
namespace dX
open Spec Rows L2
section
variable {X:Cx}
abbrev TJ:=L2.St->Hp->(Hp->Prop)->Prop
def PJ(X:Cx)(es:List Expr)(m:Nat)(t:TJ):Prop:=∀ (ak:List (Addr × Obj)) (s:Shared) (σ:L2.St) (H:Hp) (out:Str) (Q:Hp->Prop),L2.Inv X ak σ H s->t σ H Q->↑out+m<=1000000->
 wpAny (model X.prog X.w) X.A (joinParts out (evalEach es X.env)) (λu s'=>∃ x tk H',u=.str x tk/\L2.Inv X ak σ H' s'/\Q H') X.xe s
theorem VJ:PJ X [] 0 (λ_ H Q=>Q H):=λak s σ H out Q I h hl =>
 joinParts_nil ⟨out,_,H,rfl,I.tok _,h⟩ (gQ (Nat.lt_of_le_of_lt hl (by decide)))
def yR{out y:Str}{m n:Nat}(h:↑out+(n+m)<=1000000)(hy:↑y<=n):↑(out++y)<=sizeLine/\↑(out++y)+m<=1000000:=by
 rw[PySem.strLen_append];refine⟨Nat.le_of_lt (Nat.lt_of_le_of_lt (show ↑out+↑y<=1000000 by lia) (by decide)),Q⟩
def N6{x:Str}{j:Nat}{es:List Expr}{m:Nat}{t:TJ}(h:PJ X es m t):PJ X (.Constant (.str x) j pos::es) (↑x+m) t:=by
 intro ak s σ H out Q I q hl;refine joinParts_consE (joinParts_cons (Calls.Constant_str ?_));have z:=yR (y:=x) hl (fT _);exact⟨z.1,h ak _ σ H _ Q (I.tok _) q z.2⟩
def N7{e:Expr}{te:TE}{es:List Expr}{m:Nat}{t:TJ}(he:PE X e te)(h:PJ X es m t):PJ X (.FormattedValue e (-1) none pos::es) (1921+m) (fun σ H Q=>te σ H λv H1=>∃ i:Int,v=.int i/\i.natAbs.log2<1920/\t σ H1 Q):=by
 intro ak s σ H out Q I q hl;refine joinParts_consE (joinParts_cons (FormattedValue_plain (cI (he ak s σ H _ I q) λv s1 CN=>?_)));let⟨x,H1,I1,r1,i,e1,hi,q1⟩:=CN;subst e1;let⟨tk,rfl⟩:=r1;refine formatField_int_small hi ?_;have z:=yR (y:=Str.ofString (toString i)) hl (int_text_len_1921 hi);exact⟨z.1,h ak _ σ H1 _ Q (I1.tok _) q1 z.2⟩
def Rk{m9:List Expr}{m:Nat}{t:TJ}(h:PJ X (v1::v2::m9) m t)(hm:m<=1000000:=by decide +kernel):PE X (.JoinedStr (v1::v2::m9) pos) (fun σ H Q=>t σ H λH1=>∀ x,Q (.str x) H1):=by
 intro ak s σ H Q I q;refine JoinedStr_many (cI (h ak s σ H Str.empty _ I q (by show 0+m<=_;lia)) λu s1 EE=>?_);let⟨x,tk,H1,e,I1,q1⟩:=EE;subst e;exact⟨.str x,H1,I1,⟨Y⟩,q1 x⟩
def Rl(r r' r2:R2)(ta tb tc td:TE):TT:=fun σ H Q=>ta σ H λx H1=>tb σ H1 λy H2=>r x y H2 λz H3=>∃ k,z=.bl k/\
 (if k=true then tc σ H3 λu H4=>r' y u H4 λz' H5=>∃ k',z'=.bl k'/\(if k'=true then td σ H5 λv H6=>r2 u v H6 λz2 H7=>∃ k2,z2=.bl k2/\Q k2 H7 else Q false H5) else Q false H3)
theorem Ls{op GZ VL:CmpOp}{r r' r2:R2}{a b c d:Expr}{ta tb tc td:TE}(ho:uJ X (compareOp op) r)(KO:uJ X (compareOp GZ) r')(VM:uJ X (compareOp VL) r2)(ha:PE X a ta)(hb:PE X b tb)(hc:PE X c tc)(hd:PE X d td)
  (hm:lastMarks [op,GZ,VL] [b,c,d]=false:=by with_unfolding_all rfl):PT X (.Compare a [op,GZ,VL] [b,c,d] pos) (Rl r r' r2 ta tb tc td):=by
 intro ak s σ H Q I h
 refine isTrue_chain (cI (ha ak s σ H _ I h) λv s1 ⟨x,H1,I1,r1,q1⟩=>test_link (cI (hb ak s1 σ H1 _ I1 q1) λu s2 ⟨y,H2,I2,r2',q2⟩ =>
  cI (ho ak s2 σ H2 x y v u _ I2 r1 r2' q2) λz s3 ⟨z',H3,I3,r3,k,e,q3⟩=>?_)) hm
 subst e;cases r3;refine wpAny_truthy_bool ?_
 cases k with
 | false=>exact ite_ff ⟨H3,I3,q3⟩
 | true =>
  refine ite_tt (test_link (cI (hc ak s3 σ H3 _ I3 q3) λv4 s4 ⟨x4,H4,I4,r4,q4⟩=>cI (KO ak s4 σ H4 y x4 u v4 _ I4 r2' r4 q4) λz5 s5 EK=>?_));let⟨x5,H5,I5,r5,k5,e5,q5⟩:=EK;subst e5;cases r5;refine wpAny_truthy_bool ?_
  cases k5 with
  | false=>exact ite_ff ⟨H5,I5,q5⟩
  | true =>
   refine ite_tt (test_last (cI (hd ak s5 σ H5 _ I5 q5) λv6 s6 ⟨x6,H6,I6,r6,q6⟩=>cI (VM ak s6 σ H6 x4 x6 v4 v6 _ I6 r4 r6 q6) λz7 s7 EF=>?_));let⟨x7,H7,I7,r7,k7,e7,q7⟩:=EF;subst e7;cases r7;exact wpAny_truthy_bool ⟨H7,I7,q7⟩
end
end dX
namespace gG
open L2 cO dX
def aU{H H':Hp}{a:Addr}(s:aJ H H')(h:H' a=none):H a=none:=by
 cases q:H a with
 | none=>rfl
 | some o=>rw[s a o q]at h;cases h
def Ib(i:Int):Prop:=-(10^60)<i/\i<10^60
def Ib.log{i:Int}(h:Ib i):i.natAbs.log2<1920:=by
 have h1:i.natAbs<2^1920:=by
  have:i.natAbs<10^60:=by
   let⟨a,b⟩:=h;have e:((10:Int)^60)=(((10:Nat)^60:Nat):Int):=by norm_cast
   rw[e]at a b;lia
  exact oG this nofun
 by_cases h0:i.natAbs=0
 ·rw[h0];decide
 ·exact (Nat.log2_lt h0).mpr h1
def N8(a b h:Int)(p:Int × Int):Row:=if max (a-h) 0<min (b-h) (p.2-p.1) then [(p.1+max (a-h) 0,p.1+min (b-h) (p.2-p.1))] else []
def mP(a b:Int):Int->Row->Row
 | _,[]=>[]
 | h,p::r=>N8 a b h p++mP a b (h+(p.2-p.1)) r
theorem E9(a b:Int)(p:Int × Int):∀ (r:Row) (c:Int),mP a b c (r++[p])=mP a b c r++N8 a b (c+jP r) p
 | [],c=>by simp[mP,QZ]
 | q::r,c=>by
  have e:c+(q.2-q.1)+jP r=c+jP (q::r):=by rw[E3];lia
  rw[List.cons_append,mP,E9 a b p r,mP,e,mL]
def VN(a b h:Int)(p:Int × Int):↑(N8 a b h p)<=1:=by
 unfold N8
 split <;> simp
theorem nG(a b:Int):∀ (r:Row) (c:Int),↑(mP a b c r)<=↑r
 | [],_=>fT _
 | q::r,c=>by
  have ih:=nG a b r (c+(q.2-q.1));have z:=VN a b c q;rw[mP,cX,kX];lia
def N9(a b h:Int)(p:Int × Int):∀ q∈N8 a b h p,q.1<=q.2:=by
 unfold N8;split
 ·intro q hq;simp only[List.mem_singleton]at hq;subst hq;simp only;lia
 ·intro q hq;cases hq
theorem De(a b:Int):∀ (r:Row) (c:Int),∀ q∈mP a b c r,q.1<=q.2
 | [],_=>λq hq=>by cases hq
 | p::r,c=>λq hq=>by
  rw[mP]at hq;rcases List.mem_append.mp hq with z|z
  ·exact N9 a b c p q z
  ·exact De a b r _ q z
theorem Fb(s:Int):∀ (n k:Nat),(run s n).drop k=run (s+k) (n-k)
 | n,0=>by simp
 | 0,k+1=>by simp[run]
 | n+1,k+1=>by
  rw[run,List.drop_succ_cons,Fb (s+1) n k];have e1:s+1+(k:Int)=s+((k+1:Nat):Int):=by lia
  have e2:n+1-(k+1)=n-k:=by lia
  rw[e1,e2]
theorem Fc(s:Int):∀ (n k:Nat),(run s n).take k=run s (min k n)
 | n,0=>by simp[run]
 | 0,k+1=>by simp[run]
 | n+1,k+1=>by
  rw[run,List.take_succ_cons,Fc (s+1) n k];have e2:min (k+1) (n+1)=min k n+1:=by lia
  rw[e2,run]
def Lu(a b h:Int)(p:Int × Int)(hp:p.1<=p.2):bz (N8 a b h p)=((jH p).take (b-h).toNat).drop (a-h).toNat:=by
 let⟨s,e⟩:=p;simp only at hp;unfold N8 jH;simp only;rw[Fc,Fb,← Int.ofNat_toNat (a-h)];generalize (a-h).toNat=n;generalize b-h=x;have y0:0<=e-s:=by lia
 generalize e-s=y at y0
 have em:min x.toNat y.toNat=(min x y).toNat:=by
  rcases Int.le_total x y with c|c
  ·rw[Int.min_eq_left c,Nat.min_eq_left (Int.toNat_le_toNat c)]
  ·rw[Int.min_eq_right c,Nat.min_eq_right (Int.toNat_le_toNat c)]
 rw[em];generalize min x y=m;clear em y0 hp;by_cases c:(n:Int)<m
 ·rw[if_pos c,gp,jH];simp only;rw[Int.add_sub_add_left,Int.toNat_sub']
 ·rw[if_neg c,Nat.sub_eq_zero_of_le (Int.toNat_le.mpr (Int.not_lt.mp c))];rfl
def zI(b h:Int)(L:Nat):(b-(h+L)).toNat=(b-h).toNat-L:=by rw[← Int.sub_sub,Int.toNat_sub']
theorem rP(a b:Int):∀ (r:Row) (h:Int),(∀ p∈r,p.1<=p.2)->bz (mP a b h r)=((bz r).take (b-h).toNat).drop (a-h).toNat
 | [],h,_=>by simp[mP,bz]
 | p::r,h,ok=>by
  have hp:=ok p (tL ..);have ih:=rP a b r (h+(p.2-p.1)) λq hq=>ok q (oE _ hq);have e:bz (p::r)=jH p++bz r:=rfl;have hl:=xX p hp;rw[mP,cQ,Lu a b h p hp,ih,e,List.take_append,List.drop_append,gO];congr 1;rw[← hl,zI,zI];by_cases hb:↑(jH p)<=(b-h).toNat
  ·rw[Nat.min_eq_right hb]
  ·rw[Nat.sub_eq_zero_of_le (Nat.le_of_not_le hb)];simp
def In3(a b t:Int):Prop:=0<=a/\a<=b/\b<=t
class inductive Fd
 | mk (r:Addr) (row:Row) (a b:Int) (_:vs=[↥r,.int a,.int b]) (_:cB H r row) (_:↑row<=1000000) (_ :
 ∀ (q:Addr) (H':Hp),cB H' q (mP a b 0 row)->aJ H H'->H q=none->Q ↥q H')
end gG
namespace gG
open L2 cO dX
theorem Oa{P:Program}{w:World}{X:Cx}:jz (Es P w) X (λ_ _ _=>False):=λ_ _ _ _ _ _ _ h=>by
 let⟨_,_,_,_,_,_,_,_,_,_,_,z⟩:=h;exact z.elim
theorem zJ{H:Hp}:∀ {as:List Addr} {row:Row} (k:Nat),bN H as row->bN H (as.take k) (row.take k)
 | _,_,0,_=>by simp;exact .nil
 | _,_,_+1,.nil=>by simp;exact .nil
 | _,_,k+1,.cons r t=>by rw[List.take_succ_cons,List.take_succ_cons];exact .cons r (zJ k t)
def Ob(as:List Addr){k:Int}(h:0<=k):jN (as.map V.ref) none (⇑k)=(as.take k.toNat).map V.ref:=by
 unfold jN;have e1:HT.i7 ↑(as.map V.ref) 0 none=0:=rfl
 have e2:HT.i7 ↑(as.map V.ref) ↑(as.map V.ref) (⇑k)=min k.toNat ↑as:=by
  show (if k<0 then (k+(↑(as.map V.ref):Int)).toNat else min k.toNat ↑(as.map V.ref))=_;rw[if_neg ∅,cy]
 rw[e1,e2,List.drop_zero,Nat.sub_zero,List.map_take];rcases Nat.le_total k.toNat ↑as with z|z
 ·rw[Nat.min_eq_left z]
 ·rw[Nat.min_eq_right z,tK (by simp),tK (by rw[cy];exact z)]
end gG
namespace gG
open L2 cO dX
def qR(r:Row)(ok:∀ p∈r,p.1<=p.2):bz (cU r)=bz r:=by rw[E2 r ok,fZ]
def zK(a b:Int)(row:Row)(ok:∀ p∈row,p.1<=p.2):bz (cU (mP a b 0 row))=((bz row).take b.toNat).drop a.toNat:=by
 rw[qR _ (De a b row 0),rP a b row 0 ok,Int.sub_zero,Int.sub_zero]
theorem JZ(s:Int):∀ (n k:Nat),k<n->(run s n)[k]?=⇑(s+k)
 | 0,k,h=>by lia
 | n+1,0,_=>by simp[run]
 | n+1,k+1,h=>by
  rw[run,List.getElem?_cons_succ,JZ (s+1) n k ∅];congr 1;lia
def rQ(r:Row):↑(cU r)<=↑r:=by
 have z:=E7 r [];simpa [cU] using z
end gG
namespace gG
open Spec Rows L2 cO dX
def bN.append{H:Hp}{as bs:List Addr}{r q:Row}(h:bN H as r)(t:bN H bs q):bN H (as++bs) (r++q):=by
 induction h with
 | nil=>exact t
 | cons e _ ih=>exact .cons e ih
theorem VO{r q:Row}(h:∀ p∈r,p.1<=p.2)(g:∀ p∈q,p.1<=p.2):∀ p∈r++q,p.1<=p.2:=λp hp=>(List.mem_append.mp hp).elim (h p) (g p)
end gG
namespace L2
open Spec Rows
section
variable {κ:Type} [DecidableEq κ]
def cC(kvs:List (κ × V))(k:κ):Option V:=(kvs.find? λkv=>decide (kv.1=k)).map (·.2)
def eE(kvs:List (κ × V))(k:κ)(v:V):List (κ × V) :=
 if (kvs.any λkv=>decide (kv.1=k))=true then kvs.map (λkv=>if kv.1=k then (kv.1,v) else kv) else kvs++[(k,v)]
def ig{p:κ × V}{r:List (κ × V)}{k:κ}(e:p.1=k):cC (p::r) k=⇑p.2:=by simp[cC,List.find?_cons,e]
def ir{p:κ × V}{r:List (κ × V)}{k:κ}(e:¬ p.1=k):cC (p::r) k=cC r k:=by simp[cC,List.find?_cons,e]
theorem l9(k:κ):∀ kvs:List (κ × V),(kvs.any λkv=>decide (kv.1=k))=(cC kvs k).isSome
 | []=>rfl
 | p::r=>by
  rw[List.any_cons];by_cases e:p.1=k
  ·simp only[ig e,decide_eq_true e,Bool.true_or,Option.isSome_some]
  ·rw[ir e,decide_eq_false e,Bool.false_or];exact l9 k r
theorem Fe(k j:κ)(y:V):∀ kvs:List (κ × V),cC (kvs.map λkv=>if kv.1=k then (kv.1,y) else kv) j=(cC kvs j).map λx=>if j=k then y else x
 | []=>rfl
 | p::r=>by
  have ih:=Fe k j y r;rw[jy];by_cases h:p.1=k
  ·rw[if_pos h];by_cases e:p.1=j
   ·rw[ig (p:=(p.1,y)) e,ig e,Option.map_some,if_pos (e.symm.trans h)]
   ·rw[ir (p:=(p.1,y)) e,ir e,ih]
  ·rw[if_neg h];by_cases e:p.1=j
   ·rw[ig (p:=p) e,ig e,Option.map_some,if_neg (λz=>h (e.trans z))]
   ·rw[ir (p:=p) e,ir e,ih]
theorem B4(k j:κ)(y:V):∀ kvs:List (κ × V),cC kvs k=none->cC (kvs++[(k,y)]) j=if j=k then some y else cC kvs j
 | [],_=>by
  by_cases e:k=j
  ·rw[if_pos e.symm];exact ig (p:=(k,y)) e
  ·rw[if_neg (λz=>e z.symm)];exact ir (p:=(k,y)) e
 | p::r,hn=>by
  rw[List.cons_append];have hk:¬ p.1=k:=λz=>by rw[ig z]at hn;cases hn
  rw[ir hk]at hn;have ih:=B4 k j y r hn;by_cases e:p.1=j
  ·rw[ig e,ig e,if_neg (λz=>hk (e.trans z))]
  ·rw[ir e,ir e,ih]
def j9(kvs:List (κ × V))(k j:κ)(y:V):cC (eE kvs k y) j=if j=k then some y else cC kvs j:=by
 unfold eE;by_cases a:(kvs.any λkv=>decide (kv.1=k))=true
 ·rw[if_pos a,Fe];rw[l9]at a;by_cases e:j=k
  ·let⟨x,hx⟩:=Option.isSome_iff_exists.mp a;rw[if_pos e,e,hx,Option.map_some,if_pos rfl]
  ·rw[if_neg e]
   cases cC kvs j with
   | none=>rfl
   | some x=>rw[Option.map_some,if_neg e]
 ·rw[if_neg a];refine B4 k j y kvs ?_;rw[l9]at a
  cases q:cC kvs k with
  | none=>rfl
  | some x=>rw[q]at a;exact (a rfl).elim
def iu(kvs:List (κ × V))(k:κ)(v:V):↑(eE kvs k v)<=↑kvs+1:=by
 unfold eE;split
 ·rw[cy];lia
 ·rw[cX,kX,qp];lia
def zL{kvs:List (κ × V)}{k:κ}(v:V)(h:cC kvs k=none):eE kvs k v=kvs++[(k,v)]:=by
 unfold eE;rw[l9,h];exact if_neg (by decide)
def su.wJ{o:Option V}{u:Option Value}(r:su o u):o.isSome=u.isSome:=by
 cases o with
 | none=>cases u with
  | none=>rfl
  | some _=>exact (show False from r).elim
 | some _=>cases u with
  | none=>exact (show False from r).elim
  | some _=>rfl
def KV.val{kvs:List (κ × V)}{vs:List (κ × Value)}(r:KV kvs vs)(k:κ):su (cC kvs k) (valueAt vs k):=by
 unfold KV at r
 induction r with
 | nil=>exact True.intro
 | @cons p q ps qs h t ih =>
  let⟨h1,h2⟩:=h;by_cases e:p.1=k
  ·have e':q.1=k:=h1.symm.trans e;have b:valueAt (q::qs) k=⇑q.2:=by simp[valueAt,List.find?_cons,e']
   rw[ig e,b];exact h2
  ·have e':¬ q.1=k:=λz=>e (h1.trans z);have b:valueAt (q::qs) k=valueAt qs k:=by simp[valueAt,List.find?_cons,e']
   rw[ir e,b];exact ih
def KV.any{kvs:List (κ × V)}{vs:List (κ × Value)}(r:KV kvs vs)(k:κ):(kvs.any λkv=>decide (kv.1=k))=vs.any λkv=>decide (kv.1=k):=by
 unfold KV at r
 induction r with
 | nil=>rfl
 | cons h t ih=>rw[List.any_cons,List.any_cons,ih,h.1]
theorem KV.repl{kvs:List (κ × V)}{vs:List (κ × Value)}(r:KV kvs vs)(k:κ){y:V}{u:Value}(ry:RelV y u) :
  KV (kvs.map λkv=>if kv.1=k then (kv.1,y) else kv) (vs.map λkv=>if kv.1=k then (kv.1,u) else kv):=by
 unfold KV at r ⊢
 induction r with
 | nil=>exact .nil
 | @cons p q ps qs h t ih =>
  rw[jy,jy];refine .cons ?_ ih;let⟨h1,h2⟩:=h;by_cases e:p.1=k
  ·rw[if_pos e,if_pos (h1.symm.trans e)];exact⟨h1,ry⟩
  ·rw[if_neg e,if_neg (λz=>e (h1.trans z))];exact⟨h1,h2⟩
def KV.put{kvs:List (κ × V)}{vs:List (κ × Value)}(r:KV kvs vs)(k:κ){y:V}{u:Value}(ry:RelV y u):KV (eE kvs k y) (stored vs k u):=by
 unfold eE stored;rw[r.any k];by_cases e:(vs.any λkv=>decide (kv.1=k))=true
 ·rw[if_pos e,if_pos e];exact r.repl k ry
 ·rw[if_neg e,if_neg e];exact Paired.snoc r ⟨rfl,ry⟩
theorem KV.length{kvs:List (κ × V)}{vs:List (κ × Value)}(r:KV kvs vs):↑kvs=↑vs:=Paired.length r
end
def Ca{P:Program}{w:World}{k:eY}{u:Value}(r:RelV (kV k) u):(fX P w).is k u=true:=by
 cases k with
 | inl i=>let⟨t,e⟩:=(show ∃ t,u=Value.int i t from r);subst e;exact Ex P w i t
 | inr x=>let⟨t,e⟩:=(show ∃ t,u=Value.str x t from r);subst e;exact Ey P w x t
theorem Cb{P:Program}{w:World}:∀ {ks:List eY} {us:List Value},b8 (ks.map kV) us->ItemsAre (fX P w) ks us
 | [],_,r=>by rw[List.map_nil]at r;cases r;exact .nil
 | k::ks,_,r=>by
  rw[jy]at r
  cases r with
  | cons h t=>exact .cons (Ca h) (Cb t)
abbrev KT(H:Hp):List (List eY × V)->List (List eY × Addr × Value)->Prop:=Paired λp q=>p.1=q.1/\H q.2.1=⇑(.tup (p.1.map kV))/\RelV p.2 q.2.2
def KT.val{H:Hp}{kvs:List (List eY × V)}{xs:List (List eY × Addr × Value)}(r:KT H kvs xs)(k:List eY):su (cC kvs k) ((atKey xs k).map (·.2)):=by
 induction r with
 | nil=>exact True.intro
 | @cons p q ps qs h t ih =>
  let⟨h1,_,h2⟩:=h;by_cases e:p.1=k
  ·have e':q.1=k:=h1.symm.trans e;have b:atKey (q::qs) k=⇑q.2:=by simp[atKey,List.find?_cons,e']
   rw[ig e,b];exact h2
  ·have e':¬ q.1=k:=λz=>e (h1.trans z);have b:atKey (q::qs) k=atKey qs k:=by simp[atKey,List.find?_cons,e']
   rw[ir e,b];exact ih
theorem KT.repl{H:Hp}{kvs:List (List eY × V)}{xs:List (List eY × Addr × Value)}(r:KT H kvs xs)(k:List eY){y:V}{u:Value}(ry:RelV y u) :
  KT H (kvs.map λkv=>if kv.1=k then (kv.1,y) else kv) (xs.map (putAt k u)):=by
 induction r with
 | nil=>exact .nil
 | @cons p q ps qs h t ih =>
  rw[jy,jy];refine .cons ?_ ih;let⟨h1,h2,h3⟩:=h;unfold putAt;by_cases e:p.1=k
  ·rw[if_pos e,if_pos (h1.symm.trans e)];exact⟨h1,h2,ry⟩
  ·rw[if_neg e,if_neg (λz=>e (h1.trans z))];exact⟨h1,h2,h3⟩
theorem KT.put{H:Hp}{kvs:List (List eY × V)}{xs:List (List eY × Addr × Value)}(r:KT H kvs xs)(k:List eY){b:Addr}{y:V}{u:Value}(hb:H b=⇑(.tup (k.map kV)))(ry:RelV y u) :
  KT H (eE kvs k y) (storedH xs k b u):=by
 have e:(kvs.any λkv=>decide (kv.1=k))=(atKey xs k).isSome:=by
  rw[l9,(r.val k).wJ,Option.isSome_map]
 unfold eE storedH;rw[e];by_cases q:(atKey xs k).isSome=true
 ·rw[if_pos q,if_pos q];exact r.repl k ry
 ·rw[if_neg q,if_neg q];exact Paired.snoc r ⟨rfl,hb,ry⟩
theorem KT.keeps{H H':Hp}{kvs:List (List eY × V)}{xs:List (List eY × Addr × Value)}(r:KT H kvs xs)(ht:∀ b ys,H b=⇑(.tup ys)->H' b=⇑(.tup ys)):KT H' kvs xs :=
 Paired.Hj r λ_ _ z=>⟨z.1,ht _ _ z.2.1,z.2.2⟩
section
variable {P:Program} {w:World} {H:Hp} {h:Heap} {a:Addr}
theorem Ua{u:HO}(ok:oH P w H h)(e:Rd H a u):cV P w H h a u:=e.ok ok
theorem Ff{kvs:List (eY × V)}(ok:oH P w H h)(e:Rd H a (.dK kvs)):↑kvs<=sizeLine/\(a == sysModules)=false/\∃ vs,KV kvs vs/\h.DictOf (fX P w) a vs :=
 show cV P w H h a (.dK kvs) from Ua ok e
theorem Oc{kvs:List (eY × V)}(ok:oH P w H h)(e:H a=⇑(.dK kvs)):↑kvs<=sizeLine/\(a == sysModules)=false/\∃ vs,KV kvs vs/\h.DictOf (fX P w) a vs:=Ff ok (.inl e)
def Df{ks:List eY}(ok:oH P w H h)(e:H a=⇑(.tup (ks.map kV))):(tupleKind (fX P w)).is h ks a:=by
 let⟨_,aP,r,o,h1,h2,n,h3⟩:=(show cV P w H h a (.tup (ks.map kV)) from ok a _ e);exact⟨o,aP.toArray,n,h1,h2,h3,by simpa using Cb r⟩
theorem Fg{kvs:List (List eY × V)}(ok:oH P w H h)(e:Rd H a (.dT kvs)):↑kvs<=sizeLine/\(a == sysModules)=false/\
  ∃ xs,KT H kvs xs/\h.DictOfH (tupleKind (fX P w)) a xs:=by
 let⟨z,y,xs,r,o,es,ep,h1,h2,h3,h4,h5⟩:=(show cV P w H h a (.dT kvs) from Ua ok e);refine⟨z,y,xs,r,o,es,ep,h1,h2,h3,h4,λx hx=>?_,h5⟩
 have all:∀ {l:List (List eY × V)} {m:List (List eY × Addr × Value)},KT H l m->∀ x∈m,(tupleKind (fX P w)).is h x.1 x.2.1:=by
  intro l m q
  induction q with
  | nil=>intro x hx;exact nomatch hx
  | @cons p q ps qs hq t ih =>
   intro x hx;rcases List.mem_cons.mp hx with e|hx
   ·subst e;exact Df ok (by rw[← hq.1];exact hq.2.1)
   ·exact ih x hx
 exact all r x hx
theorem Zw{kvs:List (List eY × V)}(ok:oH P w H h)(e:H a=⇑(.dT kvs)):↑kvs<=sizeLine/\(a == sysModules)=false/\
  ∃ xs,KT H kvs xs/\h.DictOfH (tupleKind (fX P w)) a xs:=Fg ok (.inl e)
end
def jw(H:Hp)(a:Addr)(y:V)(r:Option V):Prop :=
 (∃ kvs k,Rd H a (.dK kvs)/\y=kV k/\r=cC kvs k)\/∃ kvs k b,Rd H a (.dT kvs)/\y=↥b/\H b=⇑(.tup (k.map kV))/\r=cC kvs k
def Dg(H:Hp)(a:Addr)(y v:V)(H':Hp):Prop :=
 (∃ kvs k,H a=⇑(.dK kvs)/\y=kV k/\↑kvs<sizeLine/\H'=aM H a (.dK (eE kvs k v)))\/
 ∃ kvs k b,H a=⇑(.dT kvs)/\y=↥b/\H b=⇑(.tup (k.map kV))/\↑kvs<sizeLine/\H'=aM H a (.dT (eE kvs k v))
theorem jw.k{H:Hp}{a:Addr}{kvs:List (eY × V)}{k:eY}(e:H a=⇑(.dK kvs)):jw H a (kV k) (cC kvs k):=.inl ⟨kvs,k,.inl e,V⟩
theorem Dg.k{H:Hp}{a:Addr}{kvs:List (eY × V)}{k:eY}{v:V}(e:H a=⇑(.dK kvs))(hl:↑kvs<sizeLine):Dg H a (kV k) v (aM H a (.dK (eE kvs k v))):=.inl ⟨kvs,k,e,rfl,hl,rfl⟩
section
variable {X:Cx} {ak:List (Addr × Obj)} {σ:St} {H:Hp} {s:Shared} {a:Addr} {y v:V} {u r:Value} {o:Option V} {A:Around} {E:Value->Shared->Prop}
def Inv.big(I:Inv X ak σ H s):sysModules<s.heap.objs.size:=by
 have h:mainGlobals<s.heap.objs.size:=(I.mod.glob.keeps I.bk).lt;exact Nat.lt_trans (by decide) h
theorem Lv{Q:Value->Shared->Prop}(hu:A.units+1<cLine)(I:Inv X ak σ H s)(g:jw H a y (⇑v))(ry:RelV y u)(h:∀ w' s',Inv X ak σ H s'->RelV v w'->Q w' s') :
  wpAny (model X.prog X.w) A (getItem ↥a u) Q E s:=by
 rcases g with ⟨kvs,k,e,ey,l⟩|⟨kvs,k,b,e,ey,eb,l⟩
 ·subst ey;let⟨z,hd,vs,vS,dd⟩:=Ff I.hok e;let⟨w',hw,jU⟩:=su.some_of (v:=v) (o:=valueAt vs k) (by rw[l];exact vS.val k);exact wpAny_getItem_of (Ca ry) dd.mapOf hw (h w' _ (I.tok _) jU)
 ·subst ey;cases (show u=Value.ref b from ry);let⟨z,hd,xs,vS,dd⟩:=Fg I.hok e;let⟨w',hw,jU⟩:=su.some_of (v:=v) (o:=(atKey xs k).map (·.2)) (by rw[l];exact vS.val k);let⟨p,hp,Ub⟩:=Option.map_eq_some_iff.mp hw;refine wpAny_getItem_heap (tupleKind_room_in1 hu) (Df I.hok eb) dd hp ?_;rw[Ub];exact h w' _ (I.tok _) jU
theorem Rm{Q:Value->Shared->Prop}(hu:A.units+1<cLine)(I:Inv X ak σ H s)(g:jw H a y o)(ry:RelV y u)(h:∀ s',Inv X ak σ H s'->Q (.bool (!o.isSome)) s') :
  wpAny (model X.prog X.w) A (compareOp .NotIn u ↥a) Q E s:=by
 rcases g with ⟨kvs,k,e,ey,l⟩|⟨kvs,k,b,e,ey,eb,l⟩
 ·subst ey;let⟨z,hd,vs,vS,dd⟩:=Ff I.hok e;refine wpAny_notIn_of (Ca ry) hd dd.mapOf ?_;rw[← (vS.val k).wJ,← l];exact h _ (I.tok _)
 ·subst ey;cases (show u=Value.ref b from ry);let⟨z,hd,xs,vS,dd⟩:=Fg I.hok e;refine wpAny_notIn_heap (tupleKind_room_in1 hu) (Df I.hok eb) hd dd ?_;have q:=(vS.val k).wJ;rw[Option.isSome_map]at q;rw[← q,← l];exact h _ (I.tok _)
theorem yS{h':Heap}{t':Nat}{ob:HO}(I:Inv X ak σ H s)(mu:Yx (H a))(hs:Heap.SameBut a s.heap h')(he:∃ q,h'.get? a=⇑q)(new:cV X.prog X.w (aM H a ob) h' a ob) :
  Inv X ak σ (aM H a ob) { s with heap:=h',toks:=t' } :=
 I.write (x:=a) (e:=a) mu (.inl rfl) (λb q hb z=>(hs.2 b hb).trans z) he new
theorem Ic{P:Program}{w:World}{H':Hp}{h':Heap}{kvs:List (eY × V)}{vs:List (eY × Value)}(z:↑kvs<=sizeLine)(hd:(a == sysModules)=false)(vS:KV kvs vs)(dd:h'.DictOf (fX P w) a vs) :
  cV P w H' h' a (.dK kvs):=⟨z,hd,vs,vS,dd⟩
theorem Lw{H':Hp}{Q:Unit->Shared->Prop}(hu:A.units+1<cLine)(I:Inv X ak σ H s)(g:Dg H a y v H')(ry:RelV y u)(rv:RelV v r)(h:∀ s',Inv X ak σ H' s'->Q () s') :
  wpAny (model X.prog X.w) A (setItem ↥a u r) Q E s:=by
 rcases g with ⟨kvs,k,e,ey,l,eH⟩|⟨kvs,k,b,e,ey,eb,l,eH⟩
 ·subst ey eH;let⟨z,hd,vs,vS,dd⟩:=Oc I.hok e;have hz:↑vs<=sizeLine:=by rw[← ↑vS];exact z
  have hl:↑(eE kvs k v)<=sizeLine:=by have:=iu kvs k v;lia
  refine wpAny_setItem_pairs (hsz:=hz) (Ca ry) dd λh' Qm hs=>h _ ?_;have he:∃ q,h'.get? a=⇑q:=let ⟨q,P,hq,_⟩:=Qm;⟨q,hq⟩;exact yS I (by rw[e];exact True.intro) hs he (Ic hl hd (vS.put k rv) Qm)
 ·subst ey eH;cases (show u=Value.ref b from ry);let⟨z,hd,xs,vS,dd⟩:=Zw I.hok e;have hz:↑xs<=sizeLine:=by rw[← Paired.length vS];exact z
  have hl:↑(eE kvs k v)<=sizeLine:=by have:=iu kvs k v;lia
  refine wpAny_setItem_heap (hsz:=hz) (tupleKind_room_in1 hu) (Df I.hok eb) dd λh' Qm hs=>h _ ?_;let⟨q,es,ep,hq,h2,h3,h4,_,h5⟩:=Qm;refine yS I (by rw[e];exact True.intro) hs ⟨q,hq⟩ ⟨hl,hd,_,(vS.put k eb rv).keeps λc ys ec=>?_,q,es,ep,hq,h2,h3,h4,h5⟩;rw[aG (cY ec e (λz=>nomatch z))];exact ec
end
def VP(i:Expr):Prop:=∀ ov iv,subscripted i false ov iv=operate [ov,iv] (getItem ov iv)
theorem Rn{prog:Program}{w:World}{A:Around}{E:Value->Shared->Prop}{s:Shared}{env:Env}{T id:String}{Q:Value->Shared->Prop}
  (hl:typeLookup (.type T) "__getitem__"=pure (⇑(.builtin id))) (hs:VP sO)
  (h:wpAny (model prog w) A (eval value env) (λo s₁=>wpAny (model prog w) A (eval sO env) (λi s₂=>s₂.TypeIs o T/\wpAny (model prog w) A (getItem o i) Q E s₂) E s₁) E s) :
  wpAny (model prog w) A (eval (.Subscript value sO pos) env) Q E s:=by
 refine Subscript_ (wpAny_mono h (λo s₁ h₁=>wpAny_mono h₁ (λi s₂ h₂=>?_) λ_ _ x=>x) λ_ _ x=>x);let⟨hT,h₂⟩:=h₂;unfold subscriptTail;refine wpAny_bind ?_;rw[getitemInPython_of_ne hT.not_modules];refine wpAny_bind (wpAny_specialOf hT hl ?_)
 have nO:wpAny (model prog w) A (subscripted sO false o i) (λr s₃=>wpAny (model prog w) A (letTemporaryGo value o r >>= λ_=>pure r) Q E s₃) E s₂:=by
  rw[hs o i];exact wpAny_operating (wpAny_mono h₂ (λr s₃ h₃=>wpAny_bind (wpAny_letTemporaryGo (wpAny_pure h₃))) λ_ _ x=>x)
 first
  | exact wpAny_pure (wpAny_bind nO)
  | exact wpAny_bind (wpAny_pure (wpAny_bind nO))
  | exact wpAny_bind nO
def Fi{X:Cx}{σ:St}{H:Hp}{s:Shared}{a:Addr}{y:V}{o:Option V}(I:Inv X ak σ H s)(g:jw H a y o):s.TypeIs ↥a "dict":=by
 rcases g with ⟨kvs,k,e,_,_⟩|⟨kvs,k,b,e,_,_,_⟩
 ·let⟨_,_,vs,_,dd⟩:=Ff I.hok e;exact dd.typeIs
 ·let⟨_,_,xs,_,dd⟩:=Fg I.hok e;exact dd.typeIs
inductive Zx(x y:V)(H:Hp)(Q:VK):Prop
 | mk (a:Addr) (v:V) (_:x=↥a) (_:jw H a y (⇑v)) (_:Q v H):Zx x y H Q
def Uc(td ty:TE):TE:=fun σ H Q=>td σ H λx H1=>ty σ H1 λy H2=>Zx x y H2 Q
def Ro(ty td:TE):TE:=fun σ H Q=>ty σ H λy H1=>td σ H1 λx H2=>∃ a o,x=↥a/\jw H2 a y o/\Q (.bl (!o.isSome)) H2
def Zy(td ty tv:TE):TS:=λD σ H=>tv σ H λv H1=>td σ H1 λx H2=>ty σ H2 λy H3=>∃ a H4,x=↥a/\Dg H3 a y v H4/\D.nx σ H4
section
variable {X:Cx} {o i e value:Expr} {pos gS K0:Pos} {td ty tv:TE}
def Rp(hu:X.A.units+1<cLine)(ho:PE X o td)(hi:PE X i ty)(hs:VP i):PE X (.Subscript o i pos) (Uc td ty):=by
 intro ak s σ H Q I h;refine Rn PySem.F.slot_dict_getitem.lookup hs (cI (ho ak s σ H _ I h) λu s1 ⟨x,H1,I1,rx,q1⟩=>cI (hi ak s1 σ H1 _ I1 q1) λiv s2 AW=>?_);let⟨y,H2,I2,ry,a,v,ex,g,q2⟩:=AW;subst ex;obtain rfl:u=Value.ref a:=rx;exact⟨Fi I2 g,Lv hu I2 g ry λw' s3 I3 jU=>⟨v,H2,I3,jU,q2⟩⟩
def Cc(hu:X.A.units+1<cLine)(hi:PE X i ty)(ho:PE X o td):PC X .NotIn i o (Ro ty td):=by
 intro ak s σ H Q I h;refine cI (hi ak s σ H _ I h) λiv s1 ⟨y,H1,I1,ry,q1⟩=>cI (ho ak s1 σ H1 _ I1 q1) λu s2 CM=>?_;let⟨x,H2,I2,rx,a,ov,ex,g,q2⟩:=CM;subst ex;obtain rfl:u=Value.ref a:=rx;exact Rm hu I2 g ry λs3 I3=>⟨.bl (!ov.isSome),H2,I3,rfl,q2⟩
theorem vc(hu:X.A.units+1<cLine)(ho:PE X o td)(hi:PE X i ty)(hv:PE X value tv)(hs:swapsWith value (⇑(.Subscript o i gS)) pos.line X.env=pure false) :
  PS X (.Assign [.Subscript o i gS] value pos) (Zy td ty tv):=by
 intro ak s σ H D I h;refine wpAny_Assign_Subscript (cI (hv ak s σ H _ I h) λr s1 ⟨v,H1,I1,rv,q1⟩=>cI (ho ak s1 σ H1 _ I1 q1) λu s2 ⟨x,H2,I2,rx,q2⟩=>cI (hi ak s2 σ H2 _ I2 q2) λiv s3 ⟨y,H3,I3,ry,a,H4,ex,g,q3⟩=>?_) hs;subst ex;obtain rfl:u=Value.ref a:=rx;exact Lw hu I3 g ry rv λs4 I4=>⟨σ,H4,I4,q3⟩
end
theorem Fj{P:Program}{w:World}{H:Hp}(h:Heap)(hb:sysModules<h.objs.size):cV P w H (h.push { cls:=.type "dict",data:=.dict #[] }) h.objs.size (.dK []) :=
 ⟨Nat.zero_le _,beq_eq_false_iff_ne.mpr (Ne.symm (jM hb)),[],.nil,Heap.DictOf.new h⟩
def VQ:TE:=λ_ H Q=>∀ p,H p=none->Q ↥p (aM H p (.dK []))
section
variable {X:Cx} {pos:Pos}
theorem mh:PE X (.Dict [] [] pos) VQ:=λak s σ H Q I h =>
 wpAny_Dict_empty ⟨↥s.heap.objs.size,_,I.laid (a:=s.heap.objs.size) (o:=.dK []) (t':=s.toks) (λ_ _ q=>Heap.get?_push_of_some _ q) (fT _) (Fj s.heap I.big),rfl,h _ (I.hok.fresh (fT _))⟩
end
def Ie:List (TE × TE)->St->Hp->(List (V × V)->Hp->Prop)->Prop
 | [],_,H,Q=>Q [] H
 | (tk,tv)::r,σ,H,Q=>tk σ H λx H1=>tv σ H1 λy H2=>Ie r σ H2 λps H3=>Q ((x,y)::ps) H3
abbrev VV:List (V × V)->List (Value × Value)->Prop:=Paired λp q=>RelV p.1 q.1/\RelV p.2 q.2
def PPs(X:Cx)(pos:Pos)(Fl:List (Option Expr))(zM:List Expr)(Rq:List (TE × TE)):Prop :=
 ∀ (ak:List (Addr × Obj)) (s:Shared) (σ:St) (H:Hp) (Q:List (V × V)->Hp->Prop),Inv X ak σ H s->Ie Rq σ H Q->
  wpAny (model X.prog X.w) X.A (evalPairs (pairTrees Fl zM X.env pos)) (λvs s'=>∃ ps H',Inv X ak σ H' s'/\VV ps vs/\Q ps H') X.xe s
theorem Rt{X:Cx}:PPs X pos [] [] []:=λak s σ H Q I h=>pairTrees_nil_walk ⟨[],H,I,.nil,h⟩
theorem vd{X:Cx}{k v:Expr}{ks:List (Option Expr)}{tk tv:TE}{Rq:List (TE × TE)}(hk:PE X k tk)(hv:PE X v tv)(hr:PPs X pos ks vs Rq) :
  PPs X pos (⇑k::ks) (v::vs) ((tk,tv)::Rq):=λak s σ H Q I h =>
 pairTrees_cons_walk (cI (hk ak s σ H _ I h) λu s1 ⟨x,H1,I1,rx,q1⟩=>cI (hv ak s1 σ H1 _ I1 q1) λw2 s2 ⟨y,H2,I2,ry,q2⟩ =>
  cI (hr ak s2 σ H2 _ I2 q2) λws s3 ⟨ps,H3,I3,vS,q3⟩=>⟨(x,y)::ps,H3,I3,.cons ⟨rx,ry⟩ vS,q3⟩)
def wK(kvs yo:List (eY × V)):List (eY × V):=yo.foldl (λacc kv=>eE acc kv.1 kv.2) kvs
def KV.merge:∀ {yo:List (eY × V)} {rs:List (eY × Value)} {kvs:List (eY × V)} {vs:List (eY × Value)},KV yo rs->KV kvs vs->KV (wK kvs yo) (merged vs rs):=by
 intro yo rs kvs vs r;unfold KV at r
 induction r generalizing kvs vs with
 | nil=>intro q;exact q
 | @cons p q ps qs h t ih =>
  intro r0
  have e:KV (eE kvs p.1 p.2) (stored vs q.1 q.2):=by
   have:=r0.put p.1 h.2;rw[← h.1];exact this
  exact ih e
theorem sV:∀ (yo kvs:List (eY × V)),↑(wK kvs yo)<=↑kvs+↑yo
 | [],kvs=>by show ↑kvs<=↑kvs+0;lia
 | p::r,kvs=>by
  have h1:=sV r (eE kvs p.1 p.2);have h2:=iu kvs p.1 p.2;show ↑(wK (eE kvs p.1 p.2) r)<=_;rw[kX];lia
theorem zN{P:Program}{w:World}:∀ {kvs:List (eY × V)} {ws:List (Value × Value)},VV (kvs.map λkv=>(kV kv.1,kv.2)) ws->∃ rs,Carries (fX P w) ws rs/\KV kvs rs
 | [],_,r=>by rw[List.map_nil]at r;cases r;exact⟨[],True.intro,.nil⟩
 | p::kvs,_,r=>by
  rw[jy]at r
  cases r with
  | @cons a b as bs h t =>
   let⟨rs,c,q⟩:=zN (P:=P) (w:=w) t;let⟨b1,b2⟩:=b;exact⟨(p.1,b2)::rs,⟨Ca h.1,rfl,c⟩,.cons ⟨rfl,h.2⟩ q⟩
def Od(Rq:List (TE × TE)):TE:=fun σ H Q=>∀ p,H p=none->Ie Rq σ (aM H p (.dK [])) λps H2=>H2 p=⇑(.dK [])/\∃ kvs:List (eY × V),ps=kvs.map (λkv=>(kV kv.1,kv.2))/\↑kvs<=15/\Q ↥p (aM H2 p (.dK (wK [] kvs)))
theorem Ru{X:Cx}{Fl:List (Option Expr)}{zM:List Expr}{Rq:List (TE × TE)}(h:PPs X pos Fl zM Rq)(NC:Fl.all (·.isSome)=true)(hl:Fl.length=↑zM)(h0:Fl≠[])
  (h15:Fl.length<=15):PE X (.Dict Fl zM pos) (Od Rq):=by
 intro ak s σ H Q I q;have hn:=I.hok.fresh (fT s.heap.objs.size);have I1:=I.laid (a:=s.heap.objs.size) (o:=.dK []) (h':=s.heap.push { cls:=.type "dict",data:=.dict #[] }) (t':=s.toks) (λ_ _ q=>Heap.get?_push_of_some _ q) (fT _) (Fj s.heap I.big);refine wpAny_Dict_walk (knd:=fX X.prog X.w) NC hl h0 h15 (cI (h ak _ σ _ _ I1 (q _ hn)) λws s2 EK=>?_);let⟨ps,H2,I2,vS,e,kvs,ep,lk,q2⟩:=EK;subst ep;let⟨rs,c,rk⟩:=zN (P:=X.prog) (w:=X.w) vS;let⟨z,hd,vs0,r0,dd⟩:=Oc I2.hok e;cases r0;refine⟨rs,c,dd,λh' Qm hs=>⟨↥s.heap.objs.size,_,?_,rfl,q2⟩⟩
 have hz:↑(wK [] kvs)<=sizeLine:=by
  have h1:=sV kvs [];rw[qp]at h1;rw[sizeLine_eq];lia
 have he:∃ q,h'.get? s.heap.objs.size=⇑q:=let ⟨q,P,hq,_⟩:=Qm;⟨q,hq⟩;exact yS I2 (by rw[e];exact True.intro) hs he (Ic hz hd (rk.merge .nil) Qm)
structure M2(X:Cx)(o:Expr)(m:Str)(jh:Pos)(e f:Expr)(iU:Pos):Prop where
 zt:attributeBase o m X.env (eval o X.env)=eval o X.env
 few:((backTo iU (starEach [e,f] X.env)).all (λx=>!x.1)&&(backToKw iU (keywordEach [] X.env)).all (λx=>x.1.isSome)
  && decide (↑([e,f]:List Expr)+↑([]:List Keyword)+(if ([]:List Keyword).isEmpty then 0 else 1)<30))=true
 line:(jh.endLine == iU.line)=true
 trees:backTo iU (starEach [e,f] X.env)=[(false,eval e X.env),(false,eval f X.env)]
def IsD(H:Hp)(a:Addr):Prop:=(∃ kvs,Rd H a (.dK kvs))\/∃ kvs,Rd H a (.dT kvs)
theorem VR{X:Cx}{σ:St}{H:Hp}{s:Shared}{a:Addr}(I:Inv X ak σ H s)(d:IsD H a) :
  s.TypeIs ↥a "dict"/\(∀ b,Value.ref a=↥b->∃ ob,s.heap.get? b=⇑ob/\ob.dict=none)/\(a == sysModules)=false:=by
 rcases d with ⟨kvs,e⟩|⟨kvs,e⟩
 ·let⟨_,hd,vs,_,dd⟩:=Ff I.hok e;refine⟨dd.typeIs,λb q=>?_,hd⟩;cases q;let⟨ob,_,_,h1,h2,_⟩:=dd;exact⟨ob,h1,h2.2.1⟩
 ·let⟨_,hd,xs,_,dd⟩:=Fg I.hok e;refine⟨dd.typeIs,λb q=>?_,hd⟩;cases q;let⟨ob,_,_,h1,h2,_⟩:=dd;exact⟨ob,h1,h2.2.1⟩
end L2
namespace cO
open Spec Rows L2
def jo(X:Cx)(N:List Str)(scope:Scope)(cl:List (Str × Addr))(C:Addr)(s₀:Shared)(H₀:Hp)(ex:List Addr)(pn:List (Addr × Obj)):Cx where
 prog:=X.prog
 w:=X.w
 K:=X.K
 mg:=X.mg
 zt:=X.zt
 A:=X.A
 N:=N
 s₀:=s₀
 H₀:=H₀
 env:=compEnvC scope cl C X.env
 zn:=X.stack
 stack:=X.stack
 ex:=ex
 fn:=λ_=>false
 calm:=X.calm
 pn:=pn
 xe:=λ_ _=>False
structure Cd(X:Cx)(N:List Str)(scope:Scope)(cl:List (Str × Addr))(jx:List (Option Nat)):Prop where
 kind:scope.kind=.function
 cell:∀ x∈scope.names,x.2≠.cell
 names:∀ x∈scope.names,x.2=.local->scope.names.lookup x.1=⇑.local
 clos:closureFor scope X.env=pure cl
 sub:∀ x c,cl.lookup x=⇑c->X.env.cells.lookup x=⇑c
 has:∀ x,((relabel scope X.env).names.lookup x=⇑.cell\/(relabel scope X.env).names.lookup x=⇑.free)->∃ c,cl.lookup x=⇑c
 len:↑jx=↑N
 free:∀ (i j:Nat) (x:Str),jx[i]?=⇑(⇑j)->N[i]?=⇑x->X.N[j]?=⇑x/\X.env.scope.names.lookup x=⇑.cell/\(relabel scope X.env).names.lookup x=⇑.cell
def uq(jx:List (Option Nat))(σ:L2.St):L2.St:=jx.map λo=>o.bind λj=>(σ[j]?).join
section
variable {X:Cx} {N:List Str} {scope:Scope} {cl:List (Str × Addr)} {jx:List (Option Nat)}
theorem xY{σ:L2.St}{H:Hp}{s:Shared}{fp:List Addr}{h₁:Heap}{t:Nat}(cs:Cd X N scope cl jx)(I:Inv X ak σ H s)(hf:∀ b∈fp,oO X ak H b)(qz:∀ b∈fp,b<s.heap.objs.size)
  (MO:h₁.Ns s.heap.objs.size λ_=>none) (hk:∀ b o,s.heap.get? b=⇑o->h₁.get? b=⇑o) :
  Inv (jo X N scope cl s.heap.objs.size s H fp (X.pn++ak)) [] (uq jx σ) H { s with heap:=h₁,toks:=t }:=by
 have sub:∀ {x c},(jo X N scope cl s.heap.objs.size s H fp (X.pn++ak)).env.cells.lookup x=⇑c->X.env.cells.lookup x=⇑c:=λ{x c} e=>cs.sub x c e
 refine⟨⟨I.ok.mod,cs.kind,I.ok.glob,I.ok.blt,fT _,λx y c e e'=>I.ok.inj x y c (sub e) (sub e'),λx hx=>cs.has x hx,λx c z _=>(by cases z),I.ok.hd,I.ok.frames,.inl rfl,λb hb=>⟨Nat.ne_of_lt (qz b hb),λx c e=>(hf b hb).2.2.2.2.1 x c (sub e)⟩,I.bs,jv I.ok.Qi I.sz,λb o e hb=>?_,λb hb z=>?_,I.stack,I.rJ⟩,
  rfl,I.bare,Un.kept hk,⟨_,MO,λi x v e1 e2 _=>?_⟩,λx c e=>?_,I.hok.fresh (fT _),λx c e=>I.j7 x c (sub e),λp hp=>?_,I.hok.kept hk,by unfold uq;rw[cy];exact cs.len⟩
 ·rcases (hf b hb).2.2.2.1 with z|z
  ·exact I.ok.Hl b o e z
  ·exact absurd (oG (Heap.lt_size (I.ok.bs b o e).1) z) (Nat.lt_irrefl _)
 ·rcases List.mem_cons.mp (I.vY b z) with e|e
  ·exact (hf b hb).2.1 e
  ·exact (hf b hb).2.2.1 e
 ·unfold uq at e2;rw[gf]at e2
  cases ej:jx[i]? with
  | none=>rw[ej]at e2;cases e2
  | some o =>
   rw[ej]at e2
   cases o with
   | none=>cases e2
   | some j =>
    have e3:σ[j]?=⇑(⇑v):=by
     have z:((σ[j]?).join)=⇑v:=qC e2
     cases hs:σ[j]? with
     | none=>rw[hs]at z;cases z
     | some q=>rw[hs]at z;exact congrArg some z
    let⟨f1,f2,f3⟩:=cs.free i j x ej e1;let⟨m,hn,hl⟩:=I.loc;let⟨u,ru,look⟩:=hl j x v f1 e3 (.inr (.inl f2));exists u,ru;rcases look with ⟨k,_⟩|⟨_,c,hc,o,ho,hd⟩
    ·have k':X.env.scope.names.lookup x=⇑.local:=k;rw[f2]at k';cases k'
    ·let⟨c',YA⟩:=cs.has x (.inl f3);have z:=cs.sub x c' YA;rw[hc]at z;cases z;exact .inr ⟨.inl f3,c,YA,o,hk _ _ ho,hd⟩
 ·let⟨v,o,ho,hd⟩:=I.cell x c (sub e);exact⟨v,o,hk _ _ ho,hd⟩
 ·have Ud:p∈X.pn++ak:=by
   have z:p∈(X.pn++ak)++[]:=hp;simpa using z
  let⟨e,n,nl,nf,d⟩:=I.pin p Ud;refine⟨hk _ _ e,n,jM (Heap.lt_size e),λz=>?_,d⟩;rcases List.mem_cons.mp (I.vY p.1 z) with e|e
  ·exact nl e
  ·exact nf e
theorem wL{σ σ':L2.St}{H H':Hp}{s s':Shared}{fp:List Addr}(I:Inv X ak σ H s)(hf:∀ b∈fp,oO X ak H b)(J:Inv (jo X N scope cl s.heap.objs.size s H fp (X.pn++ak)) [] σ' H' s'):Inv X ak σ H' s' :=
 I.EA (ch:=fp) J.os J.zt J.hok J.bare λb hb=>⟨(hf b hb).2.2.2.1,(hf b hb).2.1,(hf b hb).2.2.2.2.1,(hf b hb).2.2.2.2.2⟩
def wM{σ σ2:L2.St}{H H':Hp}{s s':Shared}{h':Heap}(I:Inv X ak σ H s)(I4:Inv X ak σ2 H' s')(Jw:H' s.heap.objs.size=none)(hs:Heap.SameBut s.heap.objs.size s'.heap h'):Inv X ak σ2 H' { s' with heap:=h' }:=by
 refine I4.turned (t':=s'.toks) (it:=s.heap.objs.size) (λb o hb e=>hs.extBut _ _ hb e) Jw (Nat.ne_of_gt I.lt) (.inr I.sz) (λx c e z=>?_) λp hp z=>?_
 ·let⟨v,o,ho,_⟩:=I.cell x c e;exact absurd (Heap.lt_size ho) (by rw[z];exact Nat.lt_irrefl _)
 ·exact absurd (Heap.lt_size (I.pin p hp).1) (by rw[z];exact Nat.lt_irrefl _)
def yT(J:It)(acc:Addr)(g:TG)(tt:TT)(te:TE)(σ0:L2.St)(H:Hp)(Q:VK):Prop :=
 ∃ W:Nat->Nat->L2.St->Hp->Prop,(∃ m,W 0 m σ0 H)/\∀ i m σ H,W i m σ H->
  (J.stop i H/\Q ↥acc H)\/(J.go i H/\∃ Nx:L2.St->Hp->Prop,(∀ σ' H',Nx σ' H'->∃ m',m'<m/\W (i+1) m' σ' H')/\∀ x H',J.M6 i H x H'->g x σ H' fun σ2 H2=>tt σ2 H2 λb H3 =>
   if b=true then te σ2 H3 λv H4=>∃ xs,H4 acc=⇑(.lst xs)/\↑xs<sizeLine/\Nx σ2 (aM H4 acc (.lst (xs++[v]))) else Nx σ2 H3)
def wN(jx:List (Option Nat))(wi:TI)(g:TG)(tt:TT)(te:TE):TE:=fun σ H Q=>wi σ H λJ H1=>∀ acc,H1 acc=none->yT J acc g tt te (uq jx σ) (aM H1 acc (.lst [])) Q
theorem Ce{iter:Expr}{wi:TI}{g:TG}{tt:TT}{te:TE}(cs:Cd X N scope cl jx)(hc:X.calm=true)(hi:PI X tg iter wi)
  (hg:∀ C s₀ H₀ ex pn,PG (jo X N scope cl C s₀ H₀ ex pn) tg g) (ht:∀ C s₀ H₀ ex pn,Ll (jo X N scope cl C s₀ H₀ ex pn) jO tt) (he:∀ C s₀ H₀ ex pn,PE (jo X N scope cl C s₀ H₀ ex pn) j5 te)
  (hs:∀ x,foldedSetIterable iter X.env x=pure x) {use:Option (Value->Sem Unit)} {Q':Value->Shared->Prop} {Q:VK} {ak:List (Addr × Obj)} {s:Shared} {σ:L2.St} {H:Hp} (I:Inv X ak σ H s) (h:wN jx wi g tt te σ H Q)
  (nO:∀ (s3:Shared) (H3:Hp) (fp:List Addr) (acc:Addr) (σ6:L2.St) (H6:Hp) (s7:Shared),Inv X ak σ H3 s3->(∀ b∈fp,oO X ak H3 b)->Inv (jo X N scope cl s3.heap.objs.size s3 H3 fp (X.pn++ak)) [] σ6 H6 s7->Q ↥acc H6->
   compPost (model X.prog X.w) X.A X.xe use Q' ↥acc s3.heap.objs.size (.ok .next) s7) :
  wpAny (model X.prog X.w) X.A (comprehension (.ListComp j5 [⟨tg,iter,jO,0⟩] scope pos) scope X.env gS (newList []) false (eval iter X.env) use) Q' X.xe s:=by
 refine wpAny_comprehension_free (use:=use) rfl hs cs.clos cs.kind cs.names (cI (hi ak s σ H _ I h) λv s1 h1=>cI h1 λYK s2 h2=>?_);let⟨it,fp,tn,J,H2,e,I2,T,st2,f2,q⟩:=h2;subst e;refine wpAny_newObj_type (hd:=by size_fits) ?_;have cK:H2 s2.heap.objs.size=none:=I2.hok.fresh (fT _);have I3:Inv X ak σ (aM H2 s2.heap.objs.size (.lst [])) { s2 with heap:=s2.heap.push { cls:=.type "list",data:=.seq ([]:List Value).toArray },toks:=s2.toks }:=I2.QJ (ys:=[]) .nil (Nat.zero_le _)
 have Zz:∀ b∈fp,b<s2.heap.objs.size:=λb hb=>by
  let⟨o,ho,_⟩:=T.obj _ _ st2 b hb;exact Heap.lt_size ho
 have f3:∀ b∈fp,oO X ak (aM H2 s2.heap.objs.size (.lst [])) b:=λb hb=>⟨by rw[aG (jM (Zz b hb))];exact (f2 b hb).1,(f2 b hb).2⟩;have k3:∀ b o,s2.heap.get? b=⇑o->(s2.heap.push { cls:=.type "list",data:=.seq ([]:List Value).toArray }).get? b=⇑o:=λb o e=>Heap.get?_push_of_some _ e;have q3:=q _ cK;generalize hs3:({ s2 with heap:=s2.heap.push { cls:=.type "list",data:=.seq ([]:List Value).toArray },toks:=s2.toks }:Shared)=s3 at I3;generalize hH3:aM H2 s2.heap.objs.size (.lst [])=H3 at I3 f3 q3;have ZA:s3.heap=s2.heap.push { cls:=.type "list",data:=.seq ([]:List Value).toArray }:=by rw[← hs3]
 have J1:∀ b∈fp,b<s3.heap.objs.size:=λb hb=>by rw[ZA,Heap.size_push];exact Nat.lt_succ_of_lt (Zz b hb)
 have st3:tn 0 s3.heap:=T.keep _ _ _ st2 λb _ o e=>by rw[ZA];exact k3 b o e
 show wpAny _ _ _ _ _ s3;refine wpAny_newFunctionEnv cs.cell (λy hy=>by simp at hy) (λh₁ MO Rv=>?_) cs.kind;have kh:∀ b o,s3.heap.get? b=⇑o->h₁.get? b=⇑o:=λb o e=>Rv.extBut _ _ (jM (Heap.lt_size e)) (Heap.get?_push_of_some _ e);have J0:Inv (jo X N scope cl s3.heap.objs.size s3 H3 fp (X.pn++ak)) [] (uq jx σ) H3 { s3 with heap:=h₁,toks:=s3.toks+↑([]:List (Str × Value)) }:=xY cs I3 f3 J1 MO kh;have ZC:tn 0 h₁:=T.keep _ _ _ st3 λb _ o e=>kh b o e;let⟨W,⟨m0,w0⟩,tN⟩:=q3
 have tP:∀ {H':Hp},(∀ b∈fp,H' b=none)->∀ b∈fp,oO (jo X N scope cl s3.heap.objs.size s3 H3 fp (X.pn++ak)) [] H' b:=λhn b hb=>by
  refine⟨hn b hb,jM (J1 b hb),λz=>?_,.inl hb,λx c e=>(f3 b hb).2.2.2.2.1 x c (cs.sub x c e),λp hp=>?_⟩
  ·rcases List.mem_cons.mp (I3.vY b z) with e|e
   ·exact (f3 b hb).2.1 e
   ·exact (f3 b hb).2.2.1 e
  ·have Ud:p∈X.pn++ak:=by
    have z:p∈(X.pn++ak)++[]:=hp;simpa using z
   exact (f3 b hb).2.2.2.2.2 p Ud
 have loop:∀ s5:Shared,s5={ s3 with heap:=h₁,toks:=s3.toks+↑([]:List (Str × Value)) }->codeAny (model X.prog X.w) X.A (.compLoop (.ListComp j5 [⟨tg,iter,jO,0⟩] scope pos) 0 ↥it ↥s2.heap.objs.size (jo X N scope cl s3.heap.objs.size s3 H3 fp (X.pn++ak)).env)
   (compPost (model X.prog X.w) X.A X.xe use Q' ↥s2.heap.objs.size s3.heap.objs.size) s5:=by
  rintro s5 rfl;refine Lk (λn s'=>∃ i σ' H',Inv (jo X N scope cl s3.heap.objs.size s3 H3 fp (X.pn++ak)) [] σ' H' s'/\tn i s'.heap/\(∀ b∈fp,H' b=none)/\W i n σ' H') ?_ m0 ⟨0,_,H3,J0,ZC,λb hb=>(f3 b hb).1,w0⟩;rintro n s6 ⟨i,σ6,H6,I6,T6,JV,w6⟩;rcases tN i n σ6 H6 w6 with ⟨stop,qn⟩|⟨go,Nx,hN,step⟩
  ·refine cI (T.done (jo X N scope cl s3.heap.objs.size s3 H3 fp (X.pn++ak)) rfl rfl rfl hc i [] s6 σ6 H6 _ I6 (tP JV) T6 stop) λr s7 CN=>?_;let⟨hr,I7⟩:=CN;subst hr;exact nO s3 H3 fp _ σ6 H6 s7 I3 f3 I7 qn
  ·refine cI (T.item (jo X N scope cl s3.heap.objs.size s3 H3 fp (X.pn++ak)) rfl rfl rfl hc i [] s6 σ6 H6 _ I6 (tP JV) T6 go) λr s7 EE=>?_;let⟨u,hr,h7⟩:=EE;subst hr;refine cI h7 λ_ s8 EK=>?_;let⟨x,H8,I8,r8,y8,N1,Dc⟩:=EK;have Zp:=I8.pinned (tP Dc) (T.obj _ _ N1);refine cI (hg _ _ _ _ _ _ s8 σ6 H8 x u _ Zp r8 (step x H8 y8)) λ_ s9 EF=>?_;let⟨σ9,H9,I9,q9⟩:=EF;refine cI (ht _ _ _ _ _ _ s9 σ9 H9 _ I9 q9) λok s10 AW=>?_;let⟨MP,T7,BS⟩:=AW
   have again:∀ {σ7:L2.St} {H7:Hp} {vR:Shared},Inv (jo X N scope cl s3.heap.objs.size s3 H3 fp (X.pn++ak)) ([]++tO fp s8.heap) σ7 H7 vR->Nx σ7 H7->∃ m,m<n/\∃ i σ' H',Inv (jo X N scope cl s3.heap.objs.size s3 H3 fp (X.pn++ak)) [] σ' H' vR/\tn i vR.heap/\(∀ b∈fp,H' b=none)/\W i m σ' H':=λ{σ7 H7 vR} I7 n7=>by
    let⟨m',hm,w7⟩:=hN σ7 H7 n7;refine⟨m',hm,i+1,σ7,H7,I7.nP,T.keep _ _ _ N1 λb hb o e=>(I7.pin (b,o) (oF _ (oF _ (ie hb e)))).1,λb hb=>?_,w7⟩;let⟨o,e,d⟩:=T.obj _ _ N1 b hb;exact (I7.pin (b,o) (oF _ (oF _ (ie hb e)))).2.1
   cases ok with
   | false =>
    rw[if_neg gE]at BS;exact again T7 BS
   | true =>
    rw[if_pos rfl]at BS;refine cI (he _ _ _ _ _ _ s10 σ9 MP _ T7 BS) λv vR ED=>?_;let⟨y,H11,I11,r11,xs,hx,hz,n11⟩:=ED;refine cI (bT _ vR σ9 H11 ↥s2.heap.objs.size [y] ↥s2.heap.objs.size [v] (λ_ H'=>Nx σ9 H') I11 rfl (.cons r11 .nil) ⟨_,xs,y,V,hx,hz,n11⟩) λ_ mO CM=>?_;let⟨_,Zq,I12,_,Vz⟩:=CM;exact again I12 Vz
 exact codeAny_compStart_list (loop _ rfl) (T.self _ _ _ _ _ ZC (loop _ rfl))
theorem Oe{iter:Expr}{wi:TI}{g:TG}{tt:TT}{te:TE}(cs:Cd X N scope cl jx)(hc:X.calm=true)(hi:PI X tg iter wi)
  (hg:∀ C s₀ H₀ ex pn,PG (jo X N scope cl C s₀ H₀ ex pn) tg g) (ht:∀ C s₀ H₀ ex pn,Ll (jo X N scope cl C s₀ H₀ ex pn) jO tt) (he:∀ C s₀ H₀ ex pn,PE (jo X N scope cl C s₀ H₀ ex pn) j5 te)
  (hs:∀ x,foldedSetIterable iter X.env x=pure x:=by intro _;rfl):PE X (.ListComp j5 [⟨tg,iter,jO,0⟩] scope pos) (wN jx wi g tt te):=by
 intro ak s σ H Q I h;rw[eval_ListComp];refine Ce (use:=none) cs hc hi hg ht he hs I h λs3 H3 fp acc σ6 H6 s7 I3 f3 I7 qn=>?_;let⟨m,hm,_⟩:=I7.loc;exact⟨m,hm,λh' Rv=>⟨↥acc,H6,wM I3 (wL I3 f3 I7) I7.free Rv,rfl,qn⟩⟩
theorem Rw{iter:Expr}{Lr:Pos}{wi:TI}{g:TG}{tt:TT}{te:TE}{i:Nat}{x:Str}(cs:Cd X N scope cl jx)(hc:X.calm=true)(hN:X.N.Nodup)(hix:X.N[i]?=⇑x)(hx:X.env.scope.names.lookup x=⇑.local)(hi:PI X tg iter wi)
  (hg:∀ C s₀ H₀ ex pn,PG (jo X N scope cl C s₀ H₀ ex pn) tg g) (ht:∀ C s₀ H₀ ex pn,Ll (jo X N scope cl C s₀ H₀ ex pn) jO tt) (he:∀ C s₀ H₀ ex pn,PE (jo X N scope cl C s₀ H₀ ex pn) j5 te)
  (hsw:swapsWith (.ListComp j5 [⟨tg,iter,jO,0⟩] scope pos) (⇑(.Name x gS)) Lr.line X.env=pure true:=by rfl)
  (hs:∀ x,foldedSetIterable iter X.env x=pure x:=by intro _;rfl):PS X (.Assign [.Name x gS] (.ListComp j5 [⟨tg,iter,jO,0⟩] scope pos) Lr) (M5 (wN jx wi g tt te) (sM i)):=by
 intro ak s σ H D I h;rw[exec_Assign_Name_used _ _ _ _ hsw];refine wpAny_bind (wpAny_standAt (wpAny_bind ?_));show wpAny _ X.A (do let _ ← comprehension (.ListComp j5 [⟨tg,iter,jO,0⟩] scope pos) scope X.env _ (newList []) false (eval iter X.env) (⇑(assign (.Name x gS) X.env))) _ _ s;have h':wN jx wi g tt te σ H (λv H'=>sM i v σ H' D.nx):=h;refine wpAny_bind (cI (Ce (use:=⇑(assign (.Name x gS) X.env)) (Q':=λ_ s'=>∃ σ' H',Inv X ak σ' H' s'/\D.nx σ' H') cs hc hi hg ht he hs I h' λs3 H3 fp acc σ6 H6 s7 I3 f3 I7 qn=>?_) λ_ s' q=>?_)
 ·have I4:=wL I3 f3 I7;let⟨m,hm,_⟩:=I7.loc;refine wpAny_assign_Name (BD I4 hN hix (.inl hx) (v:=↥acc) rfl (λs8 I8 ⟨a,Rv,ha⟩=>?_) (.inr hx))
  have na:s3.heap.objs.size≠a:=by
   rcases ha with rfl|ha
   ·exact Nat.ne_of_gt I3.lt
   ·intro z;let⟨v,o,ho,_⟩:=I3.cell x a ha;exact absurd (Heap.lt_size ho) (by rw[z];exact Nat.lt_irrefl _)
  refine⟨m,hm.at' λo e=>Rv.extBut _ o na e,λh' Zu=>⟨_,H6,wM I3 I8 I7.free Zu,qn⟩⟩
 ·exact wpAny_pure (wpAny_pure q)
theorem gD{K:PySem.W.Frag}{a:Addr}{xs:List V}{g:TG}{tt:TT}{te:TE}{σ0:L2.St}{H:Hp}{Q:VK}(Pv:Nat->L2.St->Hp->Prop)(h0:Pv 0 σ0 H)(hl:∀ i σ H,i<=↑xs->Pv i σ H->bC K H a xs)
  (hs:∀ i x σ H,xs[i]?=⇑x->Pv i σ H->g x σ H fun σ2 H2=>tt σ2 H2 λb H3=>if b=true then te σ2 H3 λv H4=>∃ ys,H4 acc=⇑(.lst ys)/\↑ys<sizeLine/\Pv (i+1) σ2 (aM H4 acc (.lst (ys++[v]))) else Pv (i+1) σ2 H3)
  (hd:∀ σ H,Pv ↑xs σ H->Q ↥acc H):yT (Qk K a) acc g tt te σ0 H Q:=by
 refine⟨λi m σ H=>m=↑xs-i/\i<=↑xs/\Pv i σ H,⟨↑xs,by simp,Nat.zero_le _,h0⟩,?_⟩;rintro i m σ H ⟨rfl,hi,p⟩;have q:=hl i σ H hi p;by_cases qz:i<↑xs
 ·refine .inr ⟨⟨xs,xs[i],q,by simp[qz]⟩,Pv (i+1),fun σ' H' p'=>⟨↑xs-(i+1),Q,rfl,qz,p'⟩,λx H' y=>?_⟩;let⟨e,y⟩:=y;subst e;exact hs i x σ _ (y xs q) p
 ·have e:i=↑xs:=by lia
  subst e;exact .inl ⟨⟨xs,q,fT _⟩,hd σ H p⟩
theorem qS{lo:Int}{k:Nat}{g:TG}{tt:TT}{te:TE}{σ0:L2.St}{H:Hp}{Q:VK}(Pv:Nat->L2.St->Hp->Prop)(h0:Pv 0 σ0 H)
  (hs:∀ i σ H,i<k->Pv i σ H->g (.int (lo+i)) σ H fun σ2 H2=>tt σ2 H2 λb H3=>if b=true then te σ2 H3 λv H4=>∃ ys,H4 acc=⇑(.lst ys)/\↑ys<sizeLine/\Pv (i+1) σ2 (aM H4 acc (.lst (ys++[v]))) else Pv (i+1) σ2 H3)
  (hd:∀ σ H,Pv k σ H->Q ↥acc H):yT (KR lo k) acc g tt te σ0 H Q:=by
 refine⟨λi m σ H=>m=k-i/\i<=k/\Pv i σ H,⟨k,by simp,Nat.zero_le _,h0⟩,?_⟩;rintro i m σ H ⟨rfl,hi,p⟩;by_cases qz:i<k
 ·refine .inr ⟨qz,Pv (i+1),fun σ' H' p'=>⟨k-(i+1),Q,rfl,qz,p'⟩,λx H' y=>?_⟩;let⟨e,y⟩:=y;subst e y;exact hs i σ _ qz p
 ·have e:i=k:=by lia
  subst e;exact .inl ⟨Nat.le_refl _,hd σ H p⟩
end
section
variable {X:Cx} {N:List Str} {scope:Scope} {cl:List (Str × Addr)} {C:Addr} {s₀:Shared} {H₀:Hp} {ex:List Addr} {pn:List (Addr × Obj)}
theorem ve{es:List Expr}{k:Nat}{t:UX}{n:Nat}(hc:X.calm=true)(h:YH (jo X N scope cl C s₀ H₀ ex pn) es t)
  (hn:↑(assignEach es (jo X N scope cl C s₀ H₀ ex pn).env)=n:=by rfl) (uM:(assignEach es (jo X N scope cl C s₀ H₀ ex pn).env).findIdx? (·.1)=none:=by rfl):PG (jo X N scope cl C s₀ H₀ ex pn) (.Tuple es k pos) (UZ X.K n t):=oM (X:=jo X N scope cl C s₀ H₀ ex pn) hc h hn uM
theorem Of{l:Expr}{tl:TE}(hl:PE (jo X N scope cl C s₀ H₀ ex pn) l tl):PI (jo X N scope cl C s₀ H₀ ex pn) tg l (TU X.K tl):=cz hl
theorem J2:XU (jo X N scope cl C s₀ H₀ ex pn) (Y3 X.K):=dh
end
def Dh{X:Cx}:j8 X (.type "range") (λxs H Q=>∃ j:Int,xs=[.int j]/\∀ p,H p=none->Q ↥p (aM H p (.AV 0 j))):=by
 intro ak s σ H xs us Q I r h;let⟨j,rfl,q⟩:=h;let⟨u1,rfl,⟨t,rfl⟩⟩:=r.one;refine call_range_1 ⟨↥s.heap.objs.size,_,I.laid (o:=.AV 0 j) (λb o e=>Heap.get?_push_of_some _ e) (fT _) ⟨K,Heap.get?_push_size _ rfl⟩,rfl,q _ (I.hok.fresh (fT _))⟩
theorem wO{scope:Scope}{env:Env}(h:∀ p∈scope.names,p.2=.free->∃ c,env.cells.lookup p.1=⇑c) :
  ∃ cl,closureFor scope env=pure cl/\(∀ x c,cl.lookup x=⇑c->env.cells.lookup x=⇑c)/\(∀ p∈scope.names,p.2=.free->∃ c,cl.lookup p.1=⇑c):=by
 unfold closureFor
 have key:∀ (l:List (Str × NameKind)) (cs:List (Str × Addr)),(∀ p∈l,p.2=.free->∃ c,env.cells.lookup p.1=⇑c)->(∀ x c,cs.lookup x=⇑c->env.cells.lookup x=⇑c)->
   ∃ cl,(forIn l cs (λp r=>if (p.2 == NameKind.free)=true then do let c ← cellOf env p.1;pure (ForInStep.yield ((p.1,c)::r)) else pure (ForInStep.yield r)):Sem (List (Str × Addr)))=pure cl/\(∀ x c,cl.lookup x=⇑c->env.cells.lookup x=⇑c)/\(∀ p∈l,p.2=.free->∃ c,cl.lookup p.1=⇑c)/\(∀ x c,cs.lookup x=⇑c->∃ c,cl.lookup x=⇑c):=by
  intro l
  induction l with
  | nil=>intro cs _ QH;exact⟨cs,rfl,QH,(λp hp=>by cases hp),λx c e=>⟨c,e⟩⟩
  | cons p l ih =>
   intro cs hl QH;rw[List.forIn_cons];by_cases hp:p.2=.free
   ·let⟨c,hc⟩:=hl p tL hp;have e1:(p.2 == NameKind.free)=true:=by rw[hp];rfl
    have e2:cellOf env p.1=pure c:=by
     unfold cellOf;rw[hc]
    rw[if_pos e1,e2];simp only[pure_bind]
    let⟨cl,h1,h2,h3,h4⟩:=ih ((p.1,c)::cs) (λq hq=>hl q (oE _ hq)) (λx d e=>by
     rw[List.lookup_cons]at e
     cases hx:x == p.1 with
     | true =>
      rw[hx]at e;cases e;rw[eq_of_beq hx];exact hc
     | false =>
      rw[hx]at e
      exact QH x d e)
    refine⟨cl,h1,h2,λq hq hf=>?_,λx d e=>?_⟩
    ·rcases List.mem_cons.mp hq with rfl|hq
     ·exact h4 q.1 c (by rw[List.lookup_cons];simp)
     ·exact h3 q hq hf
    ·cases hx:x == p.1 with
     | true=>exact h4 x c (by rw[List.lookup_cons,hx])
     | false=>exact h4 x d (by rw[List.lookup_cons,hx];exact e)
   ·have e1:¬ (p.2 == NameKind.free)=true:=λz=>hp (eq_of_beq z);rw[if_neg e1];simp only[pure_bind];let⟨cl,h1,h2,h3,h4⟩:=ih cs (λq hq=>hl q (oE _ hq)) QH;refine⟨cl,h1,h2,λq hq hf=>?_,h4⟩;rcases List.mem_cons.mp hq with rfl|hq
    ·exact absurd hf hp
    ·exact h3 q hq hf
 let⟨cl,h1,h2,h3,_⟩:=key scope.names [] h (λx c e=>by cases e);refine⟨cl,?_,h2,h3⟩;rw[← h1];simp only[bind_pure]
theorem mj{env:Env}:∀ {names:List (Str × NameKind)} {x:Str} {k:NameKind},names.lookup x=⇑k->
  (names.map λ(n,k)=>if (k == NameKind.free&&env.scope.kind == .function&&env.kindOf n == some .cell) then (n,NameKind.cell) else (n,k)).lookup x=⇑(if (k == NameKind.free&&env.scope.kind == .function&&env.kindOf x == some .cell) then NameKind.cell else k)
 | [],_,_,h=>by cases h
 | (n,k')::r,x,k,h=>by
  rw[jy];by_cases hx:(x == n)=true
  ·have e:x=n:=eq_of_beq hx;subst e;rw[List.lookup_cons,hx]at h;cases h;by_cases hc:(k' == NameKind.free&&env.scope.kind == .function&&env.kindOf x == some .cell)=true
   ·show List.lookup x ((if (k' == NameKind.free&&env.scope.kind == .function&&env.kindOf x == some .cell)=true then (x,NameKind.cell) else (x,k'))::_)=_;rw[if_pos hc,if_pos hc,List.lookup_cons,hx]
   ·show List.lookup x ((if (k' == NameKind.free&&env.scope.kind == .function&&env.kindOf x == some .cell)=true then (x,NameKind.cell) else (x,k'))::_)=_;rw[if_neg hc,if_neg hc,List.lookup_cons,hx]
  ·have hf:(x == n)=false:=by simpa using hx
   rw[List.lookup_cons,hf]at h;have ih:=mj (env:=env) h;show List.lookup x ((if (k' == NameKind.free&&env.scope.kind == .function&&env.kindOf n == some .cell)=true then (n,NameKind.cell) else (n,k'))::_)=_;by_cases hc:(k' == NameKind.free&&env.scope.kind == .function&&env.kindOf n == some .cell)=true
   ·rw[if_pos hc,List.lookup_cons,hf];exact ih
   ·rw[if_neg hc,List.lookup_cons,hf];exact ih
theorem kZ{env:Env}:∀ {names:List (Str × NameKind)} {x:Str},names.lookup x=none->
  (names.map λ(n,k)=>if (k == NameKind.free&&env.scope.kind == .function&&env.kindOf n == some .cell) then (n,NameKind.cell) else (n,k)).lookup x=none
 | [],_,_=>rfl
 | (n,k')::r,x,h=>by
  rw[jy]
  have hf:(x == n)=false:=by
   cases hx:x == n with
   | false=>rfl
   | true=>rw[List.lookup_cons,hx]at h;cases h
  rw[List.lookup_cons,hf]at h;have ih:=kZ (env:=env) h;show List.lookup x ((if (k' == NameKind.free&&env.scope.kind == .function&&env.kindOf n == some .cell)=true then (n,NameKind.cell) else (n,k'))::_)=_;by_cases hc:(k' == NameKind.free&&env.scope.kind == .function&&env.kindOf n == some .cell)=true
  ·rw[if_pos hc,List.lookup_cons,hf];exact ih
  ·rw[if_neg hc,List.lookup_cons,hf];exact ih
structure Cf(X:Cx)(N:List Str)(scope:Scope)(jx:List (Option Nat)):Prop where
 kind:scope.kind=.function
 cell:∀ x∈scope.names,x.2≠.cell
 names:∀ x∈scope.names,x.2=.local->scope.names.lookup x.1=⇑.local
 xk:X.env.scope.kind=.function
 fr:∀ x∈scope.names,x.2=.free->X.env.scope.names.lookup x.1=⇑.cell
 len:↑jx=↑N
 free:∀ (i j:Nat) (x:Str),jx[i]?=⇑(⇑j)->N[i]?=⇑x->X.N[j]?=⇑x/\scope.names.lookup x=⇑.free
def Og(NX N:List Str)(scope:Scope)(jx:List (Option Nat)):Bool:=(jx.zip N).all λp=>match p.1 with
 | none=>true
 | some j=>decide (NX[j]?=⇑p.2)&&decide (scope.names.lookup p.2=⇑.free)
theorem mq{X:Cx}{N NX:List Str}{scope sc:Scope}{jx:List (Option Nat)}(e1:X.env.scope=sc)(e2:X.N=NX)(k:scope.kind=.function)(h1:∀ x∈scope.names,x.2≠.cell)(h2:∀ x∈scope.names,x.2=.local->scope.names.lookup x.1=⇑.local)
  (h3:sc.kind=.function) (h4:∀ x∈scope.names,x.2=.free->sc.names.lookup x.1=⇑.cell) (h5:↑jx=↑N) (h6:Og NX N scope jx=true):Cf X N scope jx:=by
 refine⟨k,h1,h2,by rw[e1];exact h3,by rw[e1];exact h4,h5,λi j x a b=>?_⟩;rw[e2];unfold Og at h6;rw[List.all_eq_true]at h6;have z:=h6 (⇑j,x) (oA (i:=i) (by rw[List.getElem?_zip_eq_some];exact⟨a,b⟩));simp only[Bool.and_eq_true,decide_eq_true_eq]at z;exact z
section
variable {X:Cx} {N:List Str} {scope:Scope} {jx:List (Option Nat)}
def Cf.toF{σ:L2.St}{H:Hp}{s:Shared}(cg:Cf X N scope jx)(I:Inv X ak σ H s):∃ cl,Cd X N scope cl jx:=by
 let⟨cl,h1,h2,h3⟩:=wO (scope:=scope) (env:=X.env) λp hp hf=>I.ok.has p.1 (.inl (cg.fr p hp hf))
 have vS:∀ x,scope.names.lookup x=⇑.free->(relabel scope X.env).names.lookup x=⇑.cell:=λx hx=>by
  have z:=mj (env:=X.env) hx
  have c:(NameKind.free == NameKind.free&&X.env.scope.kind == .function&&X.env.kindOf x == some .cell)=true:=by
   have q:X.env.kindOf x=⇑.cell:=cg.fr (x,.free) (PySem.mem_of_lookup hx) rfl;rw[cg.xk,q];rfl
  rw[if_pos c]at z;exact z
 refine⟨cl,cg.kind,cg.cell,cg.names,h1,h2,λx hx=>?_,cg.len,λi j x a b=>?_⟩
 ·cases e:scope.names.lookup x with
  | none =>
   have z:(relabel scope X.env).names.lookup x=none:=kZ (env:=X.env) e;rw[z]at hx
   rcases hx with q|q <;> cases q
  | some k =>
   by_cases hk:k=.free
   ·subst hk;exact h3 (x,.free) (PySem.mem_of_lookup e) rfl
   ·have z:(relabel scope X.env).names.lookup x=⇑(if (k == NameKind.free&&X.env.scope.kind == .function&&X.env.kindOf x == some .cell) then NameKind.cell else k):=mj (env:=X.env) e
    have c:(k == NameKind.free)=false:=by
     cases q:k == NameKind.free with
     | false=>rfl
     | true=>exact absurd (eq_of_beq q) hk
    rw[c]at z;simp only[Bool.false_and,Bool.false_eq_true,if_false]at z;rw[z]at hx;rcases hx with q|q
    ·cases q;exact absurd rfl (cg.cell (x,.cell) (PySem.mem_of_lookup e))
    ·cases q;exact absurd rfl hk
 ·let⟨f1,f2⟩:=cg.free i j x a b;exact⟨f1,cg.fr (x,.free) (PySem.mem_of_lookup f2) rfl,vS x f2⟩
theorem gI{iter:Expr}{wi:TI}{g:TG}{tt:TT}{te:TE}(cg:Cf X N scope jx)(hc:X.calm=true)(hi:PI X tg iter wi)
  (hg:∀ cl C s₀ H₀ ex pn,PG (jo X N scope cl C s₀ H₀ ex pn) tg g) (ht:∀ cl C s₀ H₀ ex pn,Ll (jo X N scope cl C s₀ H₀ ex pn) jO tt) (he:∀ cl C s₀ H₀ ex pn,PE (jo X N scope cl C s₀ H₀ ex pn) j5 te)
  (hs:∀ x,foldedSetIterable iter X.env x=pure x:=by intro _;rfl):PE X (.ListComp j5 [⟨tg,iter,jO,0⟩] scope pos) (wN jx wi g tt te):=by
 intro ak s σ H Q I h;let⟨cl,cs⟩:=cg.toF I;exact Oe cs hc hi (hg cl) (ht cl) (he cl) hs ak s σ H Q I h
theorem Rx{iter:Expr}{Lr:Pos}{wi:TI}{g:TG}{tt:TT}{te:TE}{i:Nat}{x:Str}(cg:Cf X N scope jx)(hc:X.calm=true)(hN:X.N.Nodup)(hix:X.N[i]?=⇑x)(hx:X.env.scope.names.lookup x=⇑.local)(hi:PI X tg iter wi)
  (hg:∀ cl C s₀ H₀ ex pn,PG (jo X N scope cl C s₀ H₀ ex pn) tg g) (ht:∀ cl C s₀ H₀ ex pn,Ll (jo X N scope cl C s₀ H₀ ex pn) jO tt) (he:∀ cl C s₀ H₀ ex pn,PE (jo X N scope cl C s₀ H₀ ex pn) j5 te)
  (hsw:swapsWith (.ListComp j5 [⟨tg,iter,jO,0⟩] scope pos) (⇑(.Name x gS)) Lr.line X.env=pure true:=by rfl)
  (hs:∀ x,foldedSetIterable iter X.env x=pure x:=by intro _;rfl):PS X (.Assign [.Name x gS] (.ListComp j5 [⟨tg,iter,jO,0⟩] scope pos) Lr) (M5 (wN jx wi g tt te) (sM i)):=by
 intro ak s σ H D I h;let⟨cl,cs⟩:=cg.toF I;exact Rw cs hc hN hix hx hi (hg cl) (ht cl) (he cl) hsw hs ak s σ H D I h
end
end cO
namespace cO
open Spec Rows L2
section
variable {X:Cx} {N:List Str} {scope:Scope} {cl:List (Str × Addr)} {jx:List (Option Nat)}
def Fo(J:It)(acc:Addr)(g:TG)(tt:TT)(HY:TI)(g2:TG)(HZ:TT)(te:TE)(σ0:L2.St)(H:Hp)(Q:VK):Prop :=
 ∃ W:Nat->Nat->L2.St->Hp->Prop,(∃ m,W 0 m σ0 H)/\∀ i m σ H,W i m σ H->
  (J.stop i H/\Q ↥acc H)\/(J.go i H/\∃ Nx:L2.St->Hp->Prop,(∀ σ' H',Nx σ' H'->∃ m',m'<m/\W (i+1) m' σ' H')/\∀ x H',J.M6 i H x H'->g x σ H' fun σ2 H2=>tt σ2 H2 λb H3 =>
   if b=true then HX HY acc g2 HZ te σ2 H3 Nx else Nx σ2 H3)
def J3(jx:List (Option Nat))(wi:TI)(g:TG)(tt:TT)(HY:TI)(g2:TG)(HZ:TT)(te:TE):TE:=fun σ H Q=>wi σ H λJ H1=>∀ acc,H1 acc=none->Fo J acc g tt HY g2 HZ te (uq jx σ) (aM H1 acc (.lst [])) Q
theorem Ig{iter:Expr}{wi HY:TI}{g g2:TG}{tt HZ:TT}{te:TE}(cs:Cd X N scope cl jx)(hc:X.calm=true)(hi:PI X tg iter wi)
  (hg:∀ C s₀ H₀ ex pn,PG (jo X N scope cl C s₀ H₀ ex pn) tg g) (ht:∀ C s₀ H₀ ex pn,Ll (jo X N scope cl C s₀ H₀ ex pn) jO tt) (hi2:∀ C s₀ H₀ ex pn,PI (jo X N scope cl C s₀ H₀ ex pn) qA dO HY) (hg2:∀ C s₀ H₀ ex pn,PG (jo X N scope cl C s₀ H₀ ex pn) qA g2) (Ih:∀ C s₀ H₀ ex pn,Ll (jo X N scope cl C s₀ H₀ ex pn) jm HZ) (he:∀ C s₀ H₀ ex pn,PE (jo X N scope cl C s₀ H₀ ex pn) j5 te)
  (hs:∀ x,foldedSetIterable iter X.env x=pure x) (G1:∀ (env:Env) x,foldedSetIterable dO env x=pure x) {use:Option (Value->Sem Unit)} {Q':Value->Shared->Prop} {Q:VK} {ak:List (Addr × Obj)} {s:Shared} {σ:L2.St} {H:Hp} (I:Inv X ak σ H s) (h:J3 jx wi g tt HY g2 HZ te σ H Q)
  (nO:∀ (s3:Shared) (H3:Hp) (fp:List Addr) (acc:Addr) (σ6:L2.St) (H6:Hp) (s7:Shared),Inv X ak σ H3 s3->(∀ b∈fp,oO X ak H3 b)->Inv (jo X N scope cl s3.heap.objs.size s3 H3 fp (X.pn++ak)) [] σ6 H6 s7->Q ↥acc H6->
   compPost (model X.prog X.w) X.A X.xe use Q' ↥acc s3.heap.objs.size (.ok .next) s7) :
  wpAny (model X.prog X.w) X.A (comprehension (.ListComp j5 [⟨tg,iter,jO,0⟩,⟨qA,dO,jm,0⟩] scope pos) scope X.env gS (newList []) false (eval iter X.env) use) Q' X.xe s:=by
 refine wpAny_comprehension_free (use:=use) rfl hs cs.clos cs.kind cs.names (cI (hi ak s σ H _ I h) λv s1 h1=>cI h1 λYK s2 h2=>?_);let⟨it,fp,tn,J,H2,e,I2,T,st2,f2,q⟩:=h2;subst e;refine wpAny_newObj_type (hd:=by size_fits) ?_;have cK:H2 s2.heap.objs.size=none:=I2.hok.fresh (fT _);have I3:Inv X ak σ (aM H2 s2.heap.objs.size (.lst [])) { s2 with heap:=s2.heap.push { cls:=.type "list",data:=.seq ([]:List Value).toArray },toks:=s2.toks }:=I2.QJ (ys:=[]) .nil (Nat.zero_le _)
 have Zz:∀ b∈fp,b<s2.heap.objs.size:=λb hb=>by
  let⟨o,ho,_⟩:=T.obj _ _ st2 b hb;exact Heap.lt_size ho
 have f3:∀ b∈fp,oO X ak (aM H2 s2.heap.objs.size (.lst [])) b:=λb hb=>⟨by rw[aG (jM (Zz b hb))];exact (f2 b hb).1,(f2 b hb).2⟩;have k3:∀ b o,s2.heap.get? b=⇑o->(s2.heap.push { cls:=.type "list",data:=.seq ([]:List Value).toArray }).get? b=⇑o:=λb o e=>Heap.get?_push_of_some _ e;have q3:=q _ cK;generalize hs3:({ s2 with heap:=s2.heap.push { cls:=.type "list",data:=.seq ([]:List Value).toArray },toks:=s2.toks }:Shared)=s3 at I3;generalize hH3:aM H2 s2.heap.objs.size (.lst [])=H3 at I3 f3 q3;have ZA:s3.heap=s2.heap.push { cls:=.type "list",data:=.seq ([]:List Value).toArray }:=by rw[← hs3]
 have J1:∀ b∈fp,b<s3.heap.objs.size:=λb hb=>by rw[ZA,Heap.size_push];exact Nat.lt_succ_of_lt (Zz b hb)
 have st3:tn 0 s3.heap:=T.keep _ _ _ st2 λb _ o e=>by rw[ZA];exact k3 b o e
 show wpAny _ _ _ _ _ s3;refine wpAny_newFunctionEnv cs.cell (λy hy=>by simp at hy) (λh₁ MO Rv=>?_) cs.kind;have kh:∀ b o,s3.heap.get? b=⇑o->h₁.get? b=⇑o:=λb o e=>Rv.extBut _ _ (jM (Heap.lt_size e)) (Heap.get?_push_of_some _ e);have J0:Inv (jo X N scope cl s3.heap.objs.size s3 H3 fp (X.pn++ak)) [] (uq jx σ) H3 { s3 with heap:=h₁,toks:=s3.toks+↑([]:List (Str × Value)) }:=xY cs I3 f3 J1 MO kh;have ZC:tn 0 h₁:=T.keep _ _ _ st3 λb _ o e=>kh b o e;let⟨W,⟨m0,w0⟩,tN⟩:=q3
 have tP:∀ {H':Hp},(∀ b∈fp,H' b=none)->∀ b∈fp,oO (jo X N scope cl s3.heap.objs.size s3 H3 fp (X.pn++ak)) [] H' b:=λhn b hb=>by
  refine⟨hn b hb,jM (J1 b hb),λz=>?_,.inl hb,λx c e=>(f3 b hb).2.2.2.2.1 x c (cs.sub x c e),λp hp=>?_⟩
  ·rcases List.mem_cons.mp (I3.vY b z) with e|e
   ·exact (f3 b hb).2.1 e
   ·exact (f3 b hb).2.2.1 e
  ·have Ud:p∈X.pn++ak:=by
    have z:p∈(X.pn++ak)++[]:=hp;simpa using z
   exact (f3 b hb).2.2.2.2.2 p Ud
 have loop:∀ s5:Shared,s5={ s3 with heap:=h₁,toks:=s3.toks+↑([]:List (Str × Value)) }->codeAny (model X.prog X.w) X.A (.compLoop (.ListComp j5 [⟨tg,iter,jO,0⟩,⟨qA,dO,jm,0⟩] scope pos) 0 ↥it ↥s2.heap.objs.size (jo X N scope cl s3.heap.objs.size s3 H3 fp (X.pn++ak)).env)
   (compPost (model X.prog X.w) X.A X.xe use Q' ↥s2.heap.objs.size s3.heap.objs.size) s5:=by
  rintro s5 rfl;refine Rc (λn s'=>∃ i σ' H',Inv (jo X N scope cl s3.heap.objs.size s3 H3 fp (X.pn++ak)) [] σ' H' s'/\tn i s'.heap/\(∀ b∈fp,H' b=none)/\W i n σ' H') (G1 _) ?_ m0 ⟨0,_,H3,J0,ZC,λb hb=>(f3 b hb).1,w0⟩;rintro n s6 ⟨i,σ6,H6,I6,T6,JV,w6⟩;rcases tN i n σ6 H6 w6 with ⟨stop,qn⟩|⟨go,Nx,hN,step⟩
  ·refine cI (T.done (jo X N scope cl s3.heap.objs.size s3 H3 fp (X.pn++ak)) rfl rfl rfl hc i [] s6 σ6 H6 _ I6 (tP JV) T6 stop) λr s7 CN=>?_;let⟨hr,I7⟩:=CN;subst hr;exact nO s3 H3 fp _ σ6 H6 s7 I3 f3 I7 qn
  ·refine cI (T.item (jo X N scope cl s3.heap.objs.size s3 H3 fp (X.pn++ak)) rfl rfl rfl hc i [] s6 σ6 H6 _ I6 (tP JV) T6 go) λr s7 EE=>?_;let⟨u,hr,h7⟩:=EE;subst hr;refine cI h7 λ_ s8 EK=>?_;let⟨x,H8,I8,r8,y8,N1,Dc⟩:=EK;have Zp:=I8.pinned (tP Dc) (T.obj _ _ N1);refine cI (hg _ _ _ _ _ _ s8 σ6 H8 x u _ Zp r8 (step x H8 y8)) λ_ s9 EF=>?_;let⟨σ9,H9,I9,q9⟩:=EF;refine cI (ht _ _ _ _ _ _ s9 σ9 H9 _ I9 q9) λok s10 AW=>?_;let⟨MP,T7,BS⟩:=AW
   have again:∀ {σ7:L2.St} {H7:Hp} {vR:Shared},Inv (jo X N scope cl s3.heap.objs.size s3 H3 fp (X.pn++ak)) ([]++tO fp s8.heap) σ7 H7 vR->Nx σ7 H7->∃ m,m<n/\∃ i σ' H',Inv (jo X N scope cl s3.heap.objs.size s3 H3 fp (X.pn++ak)) [] σ' H' vR/\tn i vR.heap/\(∀ b∈fp,H' b=none)/\W i m σ' H':=λ{σ7 H7 vR} I7 n7=>by
    let⟨m',hm,w7⟩:=hN σ7 H7 n7;refine⟨m',hm,i+1,σ7,H7,I7.nP,T.keep _ _ _ N1 λb hb o e=>(I7.pin (b,o) (oF _ (oF _ (ie hb e)))).1,λb hb=>?_,w7⟩;let⟨o,e,d⟩:=T.obj _ _ N1 b hb;exact (I7.pin (b,o) (oF _ (oF _ (ie hb e)))).2.1
   cases ok with
   | false =>
    rw[if_neg gE]at BS;exact again T7 BS
   | true =>
    rw[if_pos rfl]at BS;refine cI (Lp (Y:=jo X N scope cl s3.heap.objs.size s3 H3 fp (X.pn++ak)) hc rfl (hi2 _ _ _ _ _) (hg2 _ _ _ _ _) (Ih _ _ _ _ _) (he _ _ _ _ _) T7 BS) λx vR h11=>cI h11 λXZ mO h12=>codeAny_mono h12 λr Lx ⟨hr,σ',H',I13,n13⟩=>⟨hr,again I13 n13⟩
 exact codeAny_compStart_list (loop _ rfl) (T.self _ _ _ _ _ ZC (loop _ rfl))
theorem Cg{iter:Expr}{pos:Pos}{wi HY:TI}{g g2:TG}{tt HZ:TT}{te:TE}(cg:Cf X N scope jx)(hc:X.calm=true)(hi:PI X tg iter wi)
  (hg:∀ cl C s₀ H₀ ex pn,PG (jo X N scope cl C s₀ H₀ ex pn) tg g) (ht:∀ cl C s₀ H₀ ex pn,Ll (jo X N scope cl C s₀ H₀ ex pn) jO tt)
  (hi2:∀ cl C s₀ H₀ ex pn,PI (jo X N scope cl C s₀ H₀ ex pn) qA dO HY) (hg2:∀ cl C s₀ H₀ ex pn,PG (jo X N scope cl C s₀ H₀ ex pn) qA g2) (Ih:∀ cl C s₀ H₀ ex pn,Ll (jo X N scope cl C s₀ H₀ ex pn) jm HZ) (he:∀ cl C s₀ H₀ ex pn,PE (jo X N scope cl C s₀ H₀ ex pn) j5 te)
  (hs:∀ x,foldedSetIterable iter X.env x=pure x:=by intro _;rfl) (G1:∀ (env:Env) x,foldedSetIterable dO env x=pure x:=by intro _ _;rfl) :
  PE X (.ListComp j5 [⟨tg,iter,jO,0⟩,⟨qA,dO,jm,0⟩] scope pos) (J3 jx wi g tt HY g2 HZ te):=by
 intro ak s σ H Q I h;let⟨cl,cs⟩:=cg.toF I;rw[eval_ListComp];refine Ig (use:=none) cs hc hi (hg cl) (ht cl) (hi2 cl) (hg2 cl) (Ih cl) (he cl) hs G1 I h λs3 H3 fp acc σ6 H6 s7 I3 f3 I7 qn=>?_;let⟨m,hm,_⟩:=I7.loc;exact⟨m,hm,λh' Rv=>⟨↥acc,H6,wM I3 (wL I3 f3 I7) I7.free Rv,rfl,qn⟩⟩
theorem xZ{K:PySem.W.Frag}{a:Addr}{xs:List V}{g:TG}{tt:TT}{HY:TI}{g2:TG}{HZ:TT}{te:TE}{σ0:L2.St}{H:Hp}{Q:VK}(Pv:Nat->L2.St->Hp->Prop)(h0:Pv 0 σ0 H)(hl:∀ i σ H,i<=↑xs->Pv i σ H->bC K H a xs)
  (hs:∀ i x σ H,xs[i]?=⇑x->Pv i σ H->g x σ H fun σ2 H2=>tt σ2 H2 λb H3=>if b=true then HX HY acc g2 HZ te σ2 H3 (Pv (i+1)) else Pv (i+1) σ2 H3)
  (hd:∀ σ H,Pv ↑xs σ H->Q ↥acc H):Fo (Qk K a) acc g tt HY g2 HZ te σ0 H Q:=by
 refine⟨λi m σ H=>m=↑xs-i/\i<=↑xs/\Pv i σ H,⟨↑xs,by simp,Nat.zero_le _,h0⟩,?_⟩;rintro i m σ H ⟨rfl,hi,p⟩;have q:=hl i σ H hi p;by_cases qz:i<↑xs
 ·refine .inr ⟨⟨xs,xs[i],q,by simp[qz]⟩,Pv (i+1),fun σ' H' p'=>⟨↑xs-(i+1),Q,rfl,qz,p'⟩,λx H' y=>?_⟩;let⟨e,y⟩:=y;subst e;exact hs i x σ _ (y xs q) p
 ·have e:i=↑xs:=by lia
  subst e;exact .inl ⟨⟨xs,q,fT _⟩,hd σ H p⟩
theorem Ii{K:PySem.W.Frag}{a:Addr}{xs:List V}{g:TG}{tt:TT}{te:TE}{σ:L2.St}{H:Hp}{Nx:L2.St->Hp->Prop}(Pv:Nat->L2.St->Hp->Prop)(h0:Pv 0 σ H)(hl:∀ i σ H,i<=↑xs->Pv i σ H->bC K H a xs)
  (hs:∀ i x σ H,xs[i]?=⇑x->Pv i σ H->g x σ H fun σ2 H2=>tt σ2 H2 λb H3=>if b=true then te σ2 H3 λv H4=>∃ ys,H4 acc=⇑(.lst ys)/\↑ys<sizeLine/\Pv (i+1) σ2 (aM H4 acc (.lst (ys++[v]))) else Pv (i+1) σ2 H3)
  (hd:∀ σ H,Pv ↑xs σ H->Nx σ H):∃ W:Nat->Nat->L2.St->Hp->Prop,(∃ m,W 0 m σ H)/\∀ i m σ H,W i m σ H->
  ((Qk K a).stop i H/\Nx σ H)\/((Qk K a).go i H/\∃ N2:L2.St->Hp->Prop,(∀ σ' H',N2 σ' H'->∃ m',m'<m/\W (i+1) m' σ' H')/\∀ x H',(Qk K a).M6 i H x H'->g x σ H' fun σ2 H2=>tt σ2 H2 λb H3 =>
   if b=true then te σ2 H3 λv H4=>∃ xs,H4 acc=⇑(.lst xs)/\↑xs<sizeLine/\N2 σ2 (aM H4 acc (.lst (xs++[v]))) else N2 σ2 H3):=by
 refine⟨λi m σ H=>m=↑xs-i/\i<=↑xs/\Pv i σ H,⟨↑xs,by simp,Nat.zero_le _,h0⟩,?_⟩;rintro i m σ H ⟨rfl,hi,p⟩;have q:=hl i σ H hi p;by_cases qz:i<↑xs
 ·refine .inr ⟨⟨xs,xs[i],q,by simp[qz]⟩,Pv (i+1),fun σ' H' p'=>⟨↑xs-(i+1),Q,rfl,qz,p'⟩,λx H' y=>?_⟩;let⟨e,y⟩:=y;subst e;exact hs i x σ _ (y xs q) p
 ·have e:i=↑xs:=by lia
  subst e;exact .inl ⟨⟨xs,q,fT _⟩,hd σ H p⟩
end
end cO
namespace cO
open Spec Rows L2
open AutoSeq1 (wpAny_loadPart')
section
variable {prog:Program} {w:World} {A:Around} {E:Value->Shared->Prop} {s:Shared} {κ:Type} [DecidableEq κ] {knd:KeyKind prog w κ}
def Ly{d:Addr}{Q:Bool->Shared->Prop}(hT:s.TypeIs ↥d "dict")(h:Q false s):wpAny (model prog w) A (Builtin.List.listLengthHint ↥d) Q E s:=by
 unfold Builtin.List.listLengthHint;refine wpAny_bind (wpAny_specialOf hT F.slot_dict_len.lookup ?_);generalize hid:("dict.__len__":String)=id0
 wp_delta
 rw[show splitId id0=⇑("dict","__len__") by subst hid;decide +kernel];subst hid;refine wpAny_bind (wpAny_isInstance (T:="dict") (b:=true) hT (by rw[isSubtype_type];kernel_rfl) ?_);refine wpAny_ite_split (λq=>absurd q (by decide)) λ_=>?_;refine wpAny_ite_split (λ_=>?_) λq=>absurd nofun q;exact wpAny_bind (wpAny_typeOf hT (wpAny_pure h))
theorem Fp{R:Result->Shared->Prop}{d:Addr}{kvs:List (κ × Value)}{ep:Nat}(hh:A.handled=none)(hs:(d == sysModules)=false)(hd:s.heap.DictAt knd d kvs ep)(cZ:↑kvs<=sizeLine)(S:Addr)(res:Value)(c₀:Nat)(hS:s.heap.get? S=some { cls:=.type "list",data:=.seq #[] c₀ })
  (hR:∀ h' tk qq c',(∀ b o,b≠S->s.heap.get? b=⇑o->h'.get? b=⇑o)->h'.get? S=some { cls:=.type "list",dict:=none,data:=.seq qq c',slots:=#[] }->
   ItemsOf (λi v=>∃ k x,kvs[i]?=⇑(k,x)/\knd.is k v=true) qq ↑kvs->R (.ok (.ret res)) { s with heap:=h',toks:=tk }) :
  wpAny (model prog w) A.in1 (Builtin.List.listExtendWith ↥S ↥d res)
   (λnO s'=>match nO with|.done f=>R (.ok f) s'|.again c'=>c'.quiet=true/\codeAny (model prog w) A c' R s') (λe s'=>R (.error e) s') s:=by
 have hT:s.TypeIs ↥d "dict":=by
  let⟨o,es,ho,hx,_⟩:=hd;exact⟨o,ho,hx.1⟩
 have hSd:S≠d:=λe=>by
  let⟨o,es,ho,hx,hda,_⟩:=hd;rw[← e,hS]at ho;cases ho;cases hda
 have aef:S<s.heap.objs.size:=Heap.lt_size hS
 have aeg:d<s.heap.objs.size:=by
  let⟨o,es,ho,_⟩:=hd;exact Heap.lt_size ho
 have hSI:S≠s.heap.objs.size:=jM aef;have hdI:d≠s.heap.objs.size:=jM aeg;have W:=(Walks.dictKeys (prog:=prog) (w:=w) (A:=A.in1) (knd:=knd) hh s.heap.objs.size d hdI kvs ep).toS;unfold Builtin.List.listExtendWith;refine wpAny_bind (wpAny_typeOf hT ?_);have h1:Builtin.List.listSameRef ↥S ↥d=false:=by simp[Builtin.List.listSameRef,hSd]
 have h2:(Value.type "dict" == Value.type "list")=false:=by decide
 have h3:(Value.type "dict" == Value.type "tuple")=false:=by decide
 simp only[h1,h2,h3,Bool.or_false,Bool.false_eq_true,if_false];refine wpAny_bind (wpAny_pyIter_dict hs hd ?_);have uh:(s.heap.push { cls:=.type "dict_keyiterator",data:=.fields #[↥d,.int 0 0,.int ↑kvs 0,.int ep 0] }).IsKeyIter s.heap.objs.size d 0 ↑kvs ep:=⟨_,Heap.get?_push_size _ rfl,V⟩;have jk:∀ b o,s.heap.get? b=⇑o->(s.heap.push { cls:=.type "dict_keyiterator",data:=.fields #[↥d,.int 0 0,.int ↑kvs 0,.int ep 0] }).get? b=⇑o:=λb o e=>Heap.get?_push_of_some _ e;generalize s.heap.push { cls:=.type "dict_keyiterator",data:=.fields #[↥d,.int 0 0,.int ↑kvs 0,.int ep 0] }=g1 at uh jk
 have hT1:({ s with heap:=g1 }:Shared).TypeIs ↥d "dict":=by
  let⟨o,ho,hc⟩:=hT;exact⟨o,jk _ _ ho,hc⟩
 refine wpAny_bind (wpAny_holding (Ly hT1 ?_));refine wpAny_ite_split (λ_=>?_) λq=>absurd nofun q;refine wpAny_bind (wpAny_rule (wpAny_bind ?_));show wpAny _ A.in1 (updateSeq S (λz=>z.push .none) >>= λ_=>updateSeq S λz=>z.pop) _ _ _;have g1S:=jk _ _ hS;refine wpAny_bind (wpAny_updateSeq g1S rfl ?_);have g2S:=Heap.get?_update_self (Obj.mapSeq λz=>z.push Value.none) g1S rfl;refine wpAny_updateSeq (hz:=by seq_fits) g2S rfl ?_;have g3S:=Heap.get?_update_self (Obj.mapSeq λz=>z.pop) g2S rfl
 have MQ:∀ b o,b≠S->g1.get? b=⇑o->((g1.update S (Obj.mapSeq λz=>z.push Value.none)).update S (Obj.mapSeq λz=>z.pop)).get? b=⇑o:=λb o nb e =>
  (Heap.get?_update_other _ _ nb.symm).trans ((Heap.get?_update_other _ _ nb.symm).trans e)
 refine wpAny_pure ⟨plainId_quiet F.plain_extend_loop _,codeAny_extend_loopS W cZ S (λhm=>?_) res ↑kvs 0 _ #[] _ rfl (Nat.zero_le _) ⟨uh.at λo e=>MQ _ o hSI.symm e,(hd.at' λo e=>MQ _ o hSd.symm (jk _ o e))⟩ g3S (ItemsOf.nil _) λs' qq c' hm hS' cK=>?_⟩
 ·rcases List.mem_cons.mp hm with e|e
  ·exact hSI e
  ·exact hSd (List.mem_singleton.mp e)
 ·rw[Moved.eq_with hm];refine hR s'.heap s'.toks qq c' (λb o nb e=>hm.heap b o (λq=>?_) (MQ b o nb (jk b o e))) hS' cK;rcases List.mem_cons.mp q with z|z
  ·exact nb z
  ·exact absurd (Heap.lt_size e) (by rw[List.mem_singleton.mp z];exact Nat.lt_irrefl _)
theorem zO{Q:Value->Shared->Prop}{d:Addr}{kvs:List (κ × Value)}{ep:Nat}(hh:A.handled=none)(hs:(d == sysModules)=false)(hd:s.heap.DictAt knd d kvs ep)(cZ:↑kvs<=sizeLine)
  (hQ:∀ h' tk qq c',(∀ b o,s.heap.get? b=⇑o->h'.get? b=⇑o)->h'.get? s.heap.objs.size=some { cls:=.type "list",dict:=none,data:=.seq qq c',slots:=#[] }->
   ItemsOf (λi v=>∃ k x,kvs[i]?=⇑(k,x)/\knd.is k v=true) qq ↑kvs->Q ↥s.heap.objs.size { s with heap:=h',toks:=tk }) :
  wpAny (model prog w) A (call (.type "list") [↥d]) Q E s:=by
 refine callType_codes (Q₁:=λu s1=>u=↥s.heap.objs.size/\s1={ s with heap:=s.heap.push { cls:=.type "list",data:=.seq #[] } }) F.called_list (F.typeCall_list_1 _) F.entry_list_init (code_list_new _ ⟨V⟩) λu s1 e1=>?_;let⟨rfl,rfl⟩:=e1;have hS:(s.heap.push { cls:=.type "list",data:=.seq #[] }).get? s.heap.objs.size=some { cls:=.type "list",data:=.seq #[] }:=Heap.get?_push_size _ rfl;have VS:(s.heap.push { cls:=.type "list",data:=.seq #[] }).DictAt knd d kvs ep:=hd.at' λo e=>Heap.get?_push_of_some _ e
 have hdn:d≠s.heap.objs.size:=by
  let⟨o,es,ho,_⟩:=hd;exact jM (Heap.lt_size ho)
 exists ⟨_,hS,rfl⟩,F.args_list_init_2 _ _;show wpAny _ _ (do let old ← Builtin.List.listItems ↥s.heap.objs.size;Builtin.List.listUpdate ↥s.heap.objs.size (λ_=>#[]);letGo old.toList.reverse;Builtin.List.listExtendWith ↥s.heap.objs.size ↥d .none) _ _ _;refine wpAny_bind ?_;unfold Builtin.List.listItems;refine wpAny_bind (wpAny_seqItems hS rfl (wpAny_pure ?_));show wpAny _ _ (updateSeq s.heap.objs.size (λ_=>#[]) >>= λ_=>letGo (#[]:Array Value).toList.reverse >>= λ_=>Builtin.List.listExtendWith ↥s.heap.objs.size ↥d .none) _ _ _;refine wpAny_bind (wpAny_updateSeq hS rfl ?_);have VT:=Heap.get?_update_self (Obj.mapSeq λ_=>(#[]:Array Value)) hS rfl;have MQ:∀ b o,b≠s.heap.objs.size->(s.heap.push { cls:=.type "list",data:=.seq #[] }).get? b=⇑o->((s.heap.push { cls:=.type "list",data:=.seq #[] }).update s.heap.objs.size (Obj.mapSeq λ_=>(#[]:Array Value))).get? b=⇑o:=λb o nb e=>(Heap.get?_update_other _ _ nb.symm).trans e;refine wpAny_bind (wpAny_letGo ?_);refine Fp (A:=A.in1) (knd:=knd) hh hs (VS.at' λo e=>MQ _ o hdn e) cZ s.heap.objs.size .none _ VT λh' tk qq c' hk hS' cK=>?_;exact⟨rfl,hQ h' tk qq c' (λb o e=>hk b o (jM (Heap.lt_size e)) (MQ b o (jM (Heap.lt_size e)) (Heap.get?_push_of_some _ e))) hS' cK⟩
end
def Ij{X:Cx}(hc:X.calm=true):j8 X (.type "list") (λxs H Q=>∃ (d:Addr) (kvs:List (eY × V)),xs=[↥d]/\H d=⇑(.dK kvs)/\∀ l,H l=none->Q ↥l (aM H l (.lst (kvs.map λp=>kV p.1)))):=by
 intro ak s σ H xs us Q I r h;let⟨d,kvs,rfl,hd,q⟩:=h;let⟨u,rfl,rx⟩:=r.one;cases (show u=Value.ref d from rx);let⟨hz,hs,vs,kv,o,es,ep,ho,hx⟩:=(show cV X.prog X.w H s.heap d (.dK kvs) from I.hok d _ hd);have len:=↑kv;refine zO (I.ok.hd hc) hs ⟨o,es,ho,hx⟩ ∅ λh' tk qq c' hk hS cK=>?_;refine⟨↥s.heap.objs.size,_,I.laid (o:=.lst (kvs.map λp=>kV p.1)) (t':=tk) hk (fT _) ⟨by rw[cy];exact hz,qq.toList,c',?_,by simpa using hS⟩,rfl,q _ (I.hok.fresh (fT _))⟩
 have key:∀ (kvs:List (eY × V)) (vs:List (eY × Value)) (us:List Value),KV kvs vs->↑us=↑vs->(∀ (j:Nat) (v:Value),us[j]?=⇑v->∃ k x,vs[j]?=⇑(k,x)/\zd k v=true)->b8 (kvs.map λp=>kV p.1) us:=by
  intro kvs
  induction kvs with
  | nil =>
   intro vs us kv hl _;cases kv
   cases us with
   | nil=>exact .nil
   | cons=>simp at hl
  | cons p r ih =>
   intro vs us kv hl hp
   cases kv with
   | @cons _ q _ Di h1 h2 =>
   cases us with
   | nil=>simp at hl
   | cons u us =>
    let⟨k,x,e1,e2⟩:=hp 0 u rfl;have e3:q=(k,x):=by simpa using e1
    subst e3;refine .cons ?_ (ih Di us h2 (by simpa using hl) λj v e=>?_)
    ·show L2.RelV (kV p.1) u;rw[show p.1=k from h1.1];rcases fj e2 with ⟨i,t,rfl,rfl⟩|⟨i,t,rfl,rfl⟩
     ·exact⟨t,rfl⟩
     ·exact⟨t,rfl⟩
    ·let⟨k',x',e4,e5⟩:=hp (j+1) v (by simpa using e);exact⟨k',x',by simpa using e4,e5⟩
 exact key kvs vs qq.toList kv (by simpa using cK.1) λj v e=>cK.2 j v (by simpa using e)
end cO
namespace yr
open Spec Rows L2 cO gG
end yr
namespace gG
open Spec Rows L2 cO dX yr
inductive bV{α β:Type}(R:α->β->Prop):List α->List β->Prop
 | nil:bV R [] []
 | cons {a:α} {b:β} {as:List α} {bs:List β}:R a b->bV R as bs->bV R (a::as) (b::bs)
section
variable {α β:Type} {R R':α->β->Prop} {as:List α} {bs:List β} {a:α} {b:β}
def bV.len{as:List α}{bs:List β}(h:bV R as bs):↑as=↑bs:=by
 induction h with
 | nil=>rfl
 | cons _ _ ih=>rw[kX,kX,ih]
theorem bV.get:∀ {as:List α} {bs:List β} {i:Nat},bV R as bs->as[i]?=⇑a->∃ b,bs[i]?=⇑b/\R a b
 | _,_,_,.nil,h=>by simp at h
 | _,_,0,.cons r _,h=>by simp at h;subst h;exact⟨Y,r⟩
 | _,_,i+1,.cons _ t,h=>by simp at h;simpa using t.get h
theorem bV.get':∀ {as:List α} {bs:List β} {i:Nat},bV R as bs->bs[i]?=⇑b->∃ a,as[i]?=⇑a/\R a b
 | _,_,_,.nil,h=>by simp at h
 | _,_,0,.cons r _,h=>by simp at h;subst h;exact⟨Y,r⟩
 | _,_,i+1,.cons _ t,h=>by simp at h;simpa using t.get' h
def bV.snoc{as:List α}{bs:List β}(t:bV R as bs)(h:R a b):bV R (as++[a]) (bs++[b]):=by
 induction t with
 | nil=>exact .cons h .nil
 | cons r _ ih=>exact .cons r ih
def bV.mono{as:List α}{bs:List β}(h:∀ a b,R a b->R' a b)(t:bV R as bs):bV R' as bs:=by
 induction t with
 | nil=>exact .nil
 | cons r _ ih=>exact .cons (h _ _ r) ih
theorem bV.set:∀ {as:List α} {bs:List β} (i:Nat),bV R as bs->R a b->bV R (as.set i a) (bs.set i b)
 | _,_,_,.nil,_=>.nil
 | _,_,0,.cons _ t,h=>.cons h t
 | _,_,i+1,.cons r t,h=>.cons r (t.set i h)
theorem bV.split:∀ {as:List α} {bs:List β},bV R as (bs++[b])->∃ Oh a,as=Oh++[a]/\bV R Oh bs/\R a b
 | _,[],.cons r .nil=>⟨[],Y,.nil,r⟩
 | _,c::bs,.cons r t=>by
  let⟨Oh,a,rfl,t',r'⟩:=t.split;exact⟨_::Oh,a,rfl,.cons r t',r'⟩
end
inductive aR where
 | win (n:Int)
 | aL (a b:Int)
def zP:aR->List V
 | .win n=>[.str "win",.int n]
 | .aL a b=>[.str "ink",.int a,.int b]
def cH(H:Hp)(v:V)(it:aR):Prop:=∃ a,v=↥a/\H a=⇑(.tup (zP it))
theorem cH.same{H H':Hp}{v:V}{it:aR}(s:aJ H H'):cH H v it->cH H' v it:=λ⟨a,e,h⟩=>⟨a,e,s _ _ h⟩
theorem cH.keep{H H':Hp}{v:V}{it:aR}{q:Addr}{xs:List V}(hq:H q=⇑(.lst xs))(k:cL q H H'):cH H v it->cH H' v it:=λ⟨a,e,h⟩=>⟨a,e,k a _ h (by
 intro z;rw[z,hq]at h
 cases h)⟩
def bR(H:Hp)(v:V)(aP:List aR):Prop:=∃ a vs,v=↥a/\H a=⇑(.lst vs)/\bV (cH H) vs aP
theorem bR.same{H H':Hp}{v:V}{aP:List aR}(s:aJ H H'):bR H v aP->bR H' v aP:=λ⟨a,vs,e,h,t⟩=>⟨a,vs,e,s _ _ h,t.mono λ_ _=>cH.same s⟩
def gr(H:Hp)(r:Addr)(af:List (List aR)):Prop:=∃ vs,H r=⇑(.lst vs)/\bV (bR H) vs af
theorem gr.same{H H':Hp}{r:Addr}{af:List (List aR)}(s:aJ H H'):gr H r af->gr H' r af:=λ⟨vs,h,t⟩=>⟨vs,s _ _ h,t.mono λ_ _=>bR.same s⟩
def cH.eqv{H:Hp}{x y:V}{it:aR}(n:Nat)(h1:cH H x it)(h2:cH H y it):Eqv H (n+2) x y:=by
 let⟨a,rfl,e1⟩:=h1;let⟨b,rfl,e2⟩:=h2;refine .inr ⟨false,a,b,Z,e1,e2,rfl,λi u v eu ev=>?_⟩;rw[eu]at ev;cases ev
 cases it with
 | win n =>
  match i,eu with
  | 0,e=>cases e;exact .inl ⟨V⟩
  | 1,e=>cases e;exact .inl ⟨V⟩
  | k+2,e=>simp[zP]at e
 | aL p q =>
  match i,eu with
  | 0,e=>cases e;exact .inl ⟨V⟩
  | 1,e=>cases e;exact .inl ⟨V⟩
  | 2,e=>cases e;exact .inl ⟨V⟩
  | k+3,e=>simp[zP]at e
def bR.eqv{H:Hp}{x y:V}{aP:List aR}(n:Nat)(h1:bR H x aP)(h2:bR H y aP):Eqv H (n+3) x y:=by
 let⟨a,vs,rfl,e1,t1⟩:=h1;let⟨b,us,rfl,e2,t2⟩:=h2;refine .inr ⟨true,a,b,Z,e1,e2,by rw[t1.len,t2.len],λi u v eu ev=>?_⟩;let⟨z,ez,r1⟩:=t1.get eu;let⟨z',ez',r2⟩:=t2.get ev;rw[ez]at ez';cases ez';exact r1.eqv n r2
def bh(t:List aR)(e:Int):List aR :=
 if e<0 then t++[.win (-1-e)] else
 match t.getLast? with
 | some (.aL a b)=>if b=e then t.dropLast++[.aL a (e+1)] else t++[.aL e (e+1)]
 | _=>t++[.aL e (e+1)]
def aO(es:List Int):List aR:=es.foldl bh []
def eZ(aP:List aR):List Int:=aP.filterMap λit=>match it with|.win n=>⇑n|.aL _ _=>none
def cM(es:List Int):List Int:=es.filterMap λe=>if e<0 then some (-1-e) else none
def gj(a b:List aR):eZ (a++b)=eZ a++eZ b:=by unfold eZ;rw[List.filterMap_append]
def Lz(t:List aR)(e:Int):eZ (bh t e)=eZ t++(if e<0 then [-1-e] else []):=by
 unfold bh;by_cases h:e<0
 ·rw[if_pos h,if_pos h,gj];rfl
 ·rw[if_neg h,if_neg h,ic];rcases qo t with rfl|⟨t',l,rfl⟩
  ·rfl
  ·rw[m6,uK]
   cases l with
   | win n=>simp[gj,eZ]
   | aL a b =>
    show eZ (if b=e then (t'++[aR.aL a b]).dropLast++[.aL a (e+1)] else (t'++[aR.aL a b])++[.aL e (e+1)])=_;by_cases hb:b=e
    ·rw[if_pos hb,List.dropLast_concat,gj,gj];rfl
    ·rw[if_neg hb,gj,gj];simp[eZ]
def LD(es:List Int):∀ t:List aR,eZ (es.foldl bh t)=eZ t++cM es:=by
 induction es with
 | nil=>intro t;simp[cM]
 | cons e es ih =>
  intro t;rw[m7,ih,Lz,mL];unfold cM;rw[List.filterMap_cons];by_cases h:e<0
  ·simp[h]
  ·simp[h]
def iM(es:List Int):eZ (aO es)=cM es:=by
 unfold aO;rw[LD];rfl
def bu{es:List Int}{y:Int}:y∈cM es↔0<=y/\-1-y∈es:=by
 unfold cM;rw[List.mem_filterMap];constructor
 ·rintro⟨e,he,h⟩;by_cases h0:e<0
  ·rw[if_pos h0]at h;cases h;exact⟨Q,by rw[show -1-(-1-e)=e by lia];exact he⟩
  ·rw[if_neg h0]at h;cases h
 ·rintro⟨h0,h1⟩;exists -1-y,h1;rw[if_pos ∅];congr 1;lia
def nY(es:List Int):∀ t:List aR,↑(es.foldl bh t)<=↑t+↑es:=by
 induction es with
 | nil=>intro t;simp
 | cons e es ih =>
  intro t;rw[m7];have z:=ih (bh t e)
  have z2:↑(bh t e)<=↑t+1:=by
   unfold bh;split
   ·simp
   ·split
    ·split
     ·rw[cX,List.length_dropLast,qy];lia
     ·simp
    ·simp
  rw[kX];lia
def jf(af:cD)(x y:Int):Prop:=0<=x/\∃ es,af[x.toNat]?=⇑es/\y∈cM es
inductive Reach(E:Int->Int->Prop)(s:Int):Int->Prop
 | one {y:Int}:E s y->Reach E s y
 | step {y z:Int}:Reach E s y->E y z->Reach E s z
theorem Reach.closed{E:Int->Int->Prop}{s:Int}{S:Int->Prop}(h0:∀ y,E s y->S y)(h1:∀ x y,S x->E x y->S y):∀ {g:Int},Reach E s g->S g
 | _,.one h=>h0 _ h
 | _,.step r h=>h1 _ _ (Reach.closed h0 h1 r) h
def fJ(af:cD):Prop:=∀ es∈af,∀ y∈cM es,y<↑af
def fJ.Fq{af:cD}(h:fJ af){x y:Int}(e:jf af x y):0<=y/\y<↑af:=by
 let⟨_,es,he,hy⟩:=e;exact⟨(bu.mp hy).1,h es (oA he) y hy⟩
def Walk(E:Int->Int->Prop)(s:Int)(w:List Int):Prop:=w[0]?=⇑s/\∀ (i:Nat) (x y:Int),w[i]?=⇑x->w[i+1]?=⇑y->E x y
theorem Walk.one(E:Int->Int->Prop)(s:Int):Walk E s [s]:=⟨rfl,λi x y _ h=>by simp at h⟩
def Walk.snoc{E:Int->Int->Prop}{s e y:Int}{w:List Int}(h:Walk E s w)(hl:w.getLast?=⇑e)(he:E e y):Walk E s (w++[y]):=by
 let⟨h0,h1⟩:=h;have hw:w≠[]:=by intro z;rw[z]at hl;cases hl
 have Zv:0<↑w:=by cases w with|nil=>exact absurd rfl hw|cons _ _=>simp
 refine⟨by rw[AU Zv];exact h0,λi x z hx hz=>?_⟩;by_cases c:i+1<↑w
 ·rw[AU c]at hz;rw[AU ∅]at hx;exact h1 i x z hx hz
 ·have c2:i+1=↑w:=by
   have:i+1<↑(w++[y]):=by
    rcases Nat.lt_or_ge (i+1) ↑(w++[y]) with q|q
    ·exact q
    ·rw[List.getElem?_eq_none q]at hz;cases hz
   rw[cX,qy]at this;lia
  rw[c2,List.getElem?_append_right (fT _),Nat.sub_self]at hz;rw[AU ∅]at hx;rw[List.getLast?_eq_getElem?]at hl;have:i=↑w-1:=by lia
  rw[this,hl]at hx;cases hx;cases hz;exact he
def Walk.reach{E:Int->Int->Prop}{s:Int}{w:List Int}(h:Walk E s w):∀ (i:Nat) (y:Int),w[i+1]?=⇑y->Reach E s y:=by
 intro i
 induction i with
 | zero=>intro y hy;exact .one (h.2 0 s y h.1 hy)
 | succ i ih =>
  intro y hy
  have:∃ x,w[i+1]?=⇑x:=by
   rcases Nat.lt_or_ge (i+1) ↑w with q|q
   ·exact⟨w[i+1],qB q⟩
   ·rw[List.getElem?_eq_none ∅]at hy;cases hy
  let⟨x,hx⟩:=this;exact .step (ih x hx) (h.2 _ _ _ hx hy)
def cnt(n:Nat)(p:Nat->Bool):Nat:=↑((List.range n).filter p)
def Oi(n:Nat){p q:Nat->Bool}(h:∀ i,i<n->p i=q i):cnt n p=cnt n q:=by
 unfold cnt;rw[List.filter_congr λi hi=>h i (List.mem_range.mp hi)]
def vf(n:Nat)(p:Nat->Bool):cnt (n+1) p=cnt n p+(if p n=true then 1 else 0):=by
 unfold cnt;rw[List.range_succ,List.filter_append,cX];congr 1;by_cases h:p n=true
 ·rw[if_pos h];simp[h]
 ·rw[if_neg h];simp[h]
theorem vg(j:Nat):∀ (n:Nat) {p q:Nat->Bool},j<n->p j=true->(∀ i,q i=(p i&&decide (i≠j)))->cnt n q+1=cnt n p
 | 0,_,_,h,_,_=>by lia
 | n+1,p,q,h,hj,hq=>by
  rw[vf,vf];by_cases e:j=n
  ·subst e
   have z:cnt j q=cnt j p:=Oi j λi hi=>by
    rw[hq i];have:decide (i≠j)=true:=by simp;lia
    rw[this,Bool.and_true]
   have z2:q j=false:=by rw[hq j];simp
   rw[z,z2,if_pos hj];simp
  ·have ih:=vg j n (p:=p) (q:=q) ∅ hj hq
   have z:q n=p n:=by
    rw[hq n];have:decide (n≠j)=true:=by simp;lia
    rw[this,Bool.and_true]
   rw[z];lia
def zQ(n:Nat)(p:Nat->Bool):cnt n p<=n:=by
 unfold cnt;have:=List.length_filter_le p (List.range n);rw[List.length_range]at this;exact this
def fP(av:Addr->Prop)(H:Hp)(v:V)(es:List Int):Prop:=∃ a,v=↥a/\¬ av a/\H a=⇑(.lst (es.map V.int))
def iy(av:Addr->Prop)(H:Hp)(r:Addr)(af:cD):Prop:=∃ vs,H r=⇑(.lst vs)/\bV (fP av H) vs af
theorem fP.keep{av:Addr->Prop}{H H':Hp}{v:V}{es:List Int}(k:∀ a o,¬ av a->H a=⇑o->H' a=⇑o):fP av H v es->fP av H' v es:=λ⟨a,e,n,h⟩=>⟨a,e,n,k a _ n h⟩
theorem iy.same{av:Addr->Prop}{H H':Hp}{r:Addr}{af:cD}(s:aJ H H'):iy av H r af->iy av H' r af:=λ⟨vs,h,t⟩=>⟨vs,s _ _ h,t.mono λ_ _=>fP.keep λa o _ e=>s a o e⟩
def iy.get{av:Addr->Prop}{H:Hp}{r:Addr}{af:cD}{i:Nat}{es:List Int}(h:iy av H r af)(e:af[i]?=⇑es):∃ vs a,H r=⇑(.lst vs)/\vs[i]?=⇑↥a/\H a=⇑(.lst (es.map V.int))/\↑vs=↑af:=by
 let⟨vs,hr,t⟩:=h;let⟨v,ev,a,rfl,_,ha⟩:=t.get' e;exact⟨vs,a,hr,ev,ha,t.len⟩
def rR(x:Int)(xs:List Int):inV (.int x) (xs.map V.int)=decide (x∈xs):=by
 unfold inV
 induction xs with
 | nil=>rfl
 | cons y ys ih =>
  rw[jy,List.any_cons,ih];show ((y == x) || decide (x∈ys))=_;by_cases h:y=x
  ·simp[h]
  ·have h2:¬ x=y:=λz=>h z.symm;simp[h,h2]
def lH(xs:List Int):(xs.map V.int).all uS=true:=by
 rw[List.all_eq_true];intro v hv;let⟨i,_,rfl⟩:=List.mem_map.mp hv;rfl
def sW(af:cD):Prop:=∃ rk:Int->Nat,(∀ x,rk x<=40)/\∀ x y,jf af x y->rk y<rk x
theorem fP.at{av:Addr->Prop}{H:Hp}{v:V}{es:List Int}{q:Addr}(o:HO)(hq:av q):fP av H v es->fP av (aM H q o) v es:=fP.keep λa u n e=>by
 rw[aG (λz=>n (by rw[z];exact hq))];exact e
theorem fP.same{av:Addr->Prop}{H H':Hp}{v:V}{es:List Int}(s:aJ H H'):fP av H v es->fP av H' v es:=fP.keep λa u _ e=>s a u e
def seen(kvs:List (eY × V))(x:Int):Prop:=(cC kvs (Sum.inl x)).isSome=true
def nH(n:Nat)(kvs:List (eY × V)):Nat:=cnt n λi=>(cC kvs (Sum.inl (i:Int))).isNone
def qT{kvs:List (eY × V)}{y x:Int}(v:V):seen (eE kvs (Sum.inl y) v) x↔x=y\/seen kvs x:=by
 unfold seen;rw[j9];by_cases h:x=y
 ·rw[if_pos (by rw[h]),h];simp
 ·rw[if_neg (λz=>h (Sum.inl.inj z))];simp[h]
def Ft{n:Nat}{kvs:List (eY × V)}{y:Int}(v:V)(h0:0<=y)(h1:y<n)(hn:cC kvs (Sum.inl y)=none):nH n (eE kvs (Sum.inl y) v)+1=nH n kvs:=by
 refine vg y.toNat n ∅ ?_ λi=>?_
 ·show (cC kvs (Sum.inl (y.toNat:Int))).isNone=true;rw[show ((y.toNat:Nat):Int)=y by lia,hn];rfl
 ·show (cC (eE kvs (Sum.inl y) v) (Sum.inl (i:Int))).isNone=((cC kvs (Sum.inl (i:Int))).isNone&&decide (i≠y.toNat));rw[j9];by_cases h:(i:Int)=y
  ·rw[if_pos (by rw[h])];have:decide (i≠y.toNat)=false:=by simp;lia
   rw[this,Bool.and_false];rfl
  ·rw[if_neg (λz=>h (Sum.inl.inj z))];have:decide (i≠y.toNat)=true:=by simp;lia
   rw[this,Bool.and_true]
def J4(lo:Int)(n:Nat):↑(run lo n)=n:=by
 induction n generalizing lo with
 | zero=>rfl
 | succ n ih=>rw[run,kX,ih]
theorem Oj:∀ {n:Nat} {lo y:Int},y∈run lo n->lo<=y/\y<lo+n
 | 0,_,_,h=>by cases h
 | n+1,lo,y,h=>by
  rcases List.mem_cons.mp h with rfl|z
  ·lia
  ·have:=Oj z;lia
theorem bV.new{H2:Hp}{q t:Addr}{vs:List V}{aP:List aR}{it:aR}{ys:List V}(eK:H2 q=⇑(.lst ys))(hb:bV (cH H2) vs aP)(ht:H2 t=none)(zs:List V) :
  bV (cH (aM (aM H2 t (.tup (zP it))) q (.lst zs))) (vs++[↥t]) (aP++[it]):=by
 have VB:q≠t:=az eK ht;have s1:aJ H2 (aM H2 t (.tup (zP it))):=au ht _;refine bV.snoc (hb.mono λv i h=>(h.same s1).keep (s1 _ _ eK) (aK q _ _)) ⟨t,rfl,?_⟩;rw[aG VB.symm,ah]
end gG
namespace VU
open Spec Rows L2 cO
section
variable {M:Model} {A:Around} {E:Value->Shared->Prop} {s:Shared}
def Dj{a b:Value}{Q:Value->Shared->Prop}(ha:s.TypeIs a "list")(hb:s.TypeIs b "list")(hc:wpAny M A (call (.builtin "list.__iadd__") [a,b]) Q E s):wpAny M A (inplaceOp .Add a b) Q E s:=by
 unfold inplaceOp;refine wpAny_holding ?_;have hq:isSeqSlot (⇑(.builtin "list.__iadd__"))=true:=by decide +kernel
 have hfi:fillsInplaceSlot (.type "list") "add" (Operator.Add == .Add)=pure false:=by
  unfold fillsInplaceSlot;show (typeLookup (.type "list") (dunderI "add") >>= λfi=>pure (fi.isSome&&!isSeqSlot fi))=pure false;rw[PySem.F.slot_list_iadd.lookup,pure_bind,hq];rfl
 have hsi:seqSlot? (.type "list") (dunderI "add")=pure (⇑(.builtin "list.__iadd__")):=PySem.seqSlot_of PySem.F.slot_list_iadd.lookup hq;refine wpAny_bind (wpAny_typeOf ha (wpAny_bind (wpAny_of_eq hfi ?_)));show wpAny M A (if false=true then _ else _) Q E s;rw[if_neg gE];refine wpAny_bind (binaryOp1_none (nm:="add") ha hb PySem.noFill_list_add ?_);refine wpAny_bind (wpAny_of_eq hsi ?_);exact wpAny_bind (wpAny_rule hc)
end
section
variable {X:Cx}
def Ue:V->V->Hp->VK->Prop:=λx y H Q=>∃ l b xs zs,x=↥l/\y=↥b/\H l=⇑(.lst xs)/\H b=⇑(.lst zs)/\↑xs+↑zs<=sizeLine/\Q ↥l (aM H l (.lst (xs++zs)))
def wQ:PIp X .Add Ue:=by
 intro ak s σ H x y v u Q I rx ry h;let⟨l,b,xs,zs,rfl,rfl,hH,hB,hz,q⟩:=h;cases rx;cases ry;let⟨z,aP,n,r,hl,e⟩:=I.AZ hH;let⟨z2,its2,n2,r2,A0,e2⟩:=I.AZ hB;have hsz:aP.toArray.size+its2.toArray.size<=sizeLine:=by rw[gZ,gZ];lia
 have ES:¬ (!aP.toArray.isEmpty&&Builtin.List.listTooLong (aP.toArray.size+its2.toArray.size))=true:=by
  rw[zq hsz,Bool.and_false];exact gE
 refine Dj ⟨_,e,rfl⟩ ⟨_,e2,rfl⟩ ?_;refine call_meets PySem.F.slot_list_iadd ⟨_,e,rfl⟩ PySem.F.entry_list_iadd (PySem.F.args_list_iadd_2 _ _) (AutoSeq1.list___iadd___list_list_0 l aP.toArray n b its2.toArray n2 ES (by rw[gZ];lia) ∅) ⟨e,e2,?_⟩;refine⟨↥l,_,I.Nv (its':=aP++its2) hH e (by simp) (r.append r2) ?_,rfl,q⟩;rw[cX];lia
section
variable {N:List Str} {scope:Scope} {cl:List (Str × Addr)} {C:Addr} {s₀:Shared} {H₀:Hp} {ex:List Addr} {pn:List (Addr × Obj)}
theorem Ik:j8 (jo X N scope cl C s₀ H₀ ex pn) (.type "list") (Y6 X.K):=fY
end
theorem Il:YW X .Add Ue:=λak s σ H x y u v Q I rx ry h=>wQ ak s σ H x y u v Q I rx ry h
end
def Ry{p q A B T:Prop} [Decidable p] [Decidable q] (w:p->(if decide q=true then A else B)->T) (h1:p/\q->A) (h2:¬ (p/\q)->B):if decide p=true then T else (if false=true then A else B):=by
 by_cases a:p
 ·rw[if_pos (decide_eq_true a)];by_cases b:q
  ·exact w a (by rw[if_pos (decide_eq_true b)];exact h1 ⟨a,b⟩)
  ·exact w a (by rw[decide_eq_false b,if_neg gE];exact h2 λz=>b z.2)
 ·rw[decide_eq_false a,if_neg gE,if_neg gE];exact h2 λz=>a z.1
theorem Ol{p q A B T:Prop} [Decidable p] [Decidable q] (w:(if decide q=true then A else B)->T) (h1:p/\q->A) (h2:¬ (p/\q)->B):if decide p=true then T else (if false=true then A else B):=Ry (λ_=>w) h1 h2
end VU
namespace gG
open Spec Rows L2 cO dX yr
def pX(r:Row):Prop:=∀ p∈r,0<=p.1/\p.1<=p.2
def jX(r:Row):Prop:=∀ p∈r,0<=p.1/\p.1<p.2
def Ci{t:Row}{s e:Int}(h:jX t)(h0:0<=s)(h1:s<e):jX (jk t s e):=by
 have add:jX (t++[(s,e)]):=λp hp=>by
  rcases List.mem_append.mp hp with z|z
  ·exact h p z
  ·rw[List.mem_singleton.mp z];exact⟨h0,h1⟩
 unfold jk;rcases qo t with rfl|⟨t',l,rfl⟩
 ·exact add
 ·rw[m6]at h add ⊢;rw[uK];show jX (if l.2=s then (t'++[l]).dropLast++[(l.1,e)] else t'++[l]++[(s,e)]);by_cases c:l.2=s
  ·rw[if_pos c,List.dropLast_concat];intro p hp;rcases List.mem_append.mp hp with z|z
   ·exact h p (sj _ z)
   ·have:=h l (by simp);rw[List.mem_singleton.mp z];exact⟨this.1,by show l.1<e;lia⟩
  ·rw[if_neg c];exact add
def wR{r:Row}(h:pX r):jX (cU r):=by
 have z:∀ (r t:Row),pX r->jX t->jX (r.foldl d7 t):=by
  intro r
  induction r with
  | nil=>intro t _ g;exact g
  | cons p r ih =>
   intro t h g;rw[m7];refine ih _ (λq hq=>h q (oE _ hq)) ?_;unfold d7;have hp:=h p (by simp);by_cases c:p.1=p.2
   ·rw[if_pos c];exact g
   ·rw[if_neg c];exact Ci g hp.1 ∅
 exact z r [] h λp hp=>by cases hp
def LF{ns:List Int}(h:∀ x∈ns,0<=x):jX (d9 ns):=by
 have z:∀ (ns:List Int) (t:Row),(∀ x∈ns,0<=x)->jX t->jX (ns.foldl (λt n=>jk t n (n+1)) t):=by
  intro ns
  induction ns with
  | nil=>intro t _ g;exact g
  | cons n ns ih =>
   intro t h g;rw[m7];exact ih _ (λx hx=>h x (oE _ hx)) (Ci g (h n (by simp)) ∅)
 exact z ns [] h λp hp=>by cases hp
theorem jX.nn{r:Row}(h:jX r):pX r:=λp hp=>⟨(h p hp).1,by have:=(h p hp).2;lia⟩
theorem Dk(a b:Int):∀ (r:Row) (h:Int),pX r->pX (mP a b h r)
 | [],_,_=>λp hp=>by cases hp
 | q::r,h,g=>by
  intro p hp;rw[mP]at hp;rcases List.mem_append.mp hp with z|z
  ·have gq:=g q (by simp);refine⟨?_,N9 a b h q p z⟩;unfold N8 at z;split at z
   ·rw[List.mem_singleton.mp z];show 0<=q.1+max (a-h) 0;lia
   ·cases z
  ·exact Dk a b r _ (λx hx=>g x (oE _ hx)) p z
end gG
namespace Rz
open Spec Rows L2 cO
end Rz
namespace gG
open Spec Rows L2 cO dX yr Rz
end gG
namespace gG
open Spec Rows L2 cO dX yr Rz
theorem J5:∀ {n:Nat} {s x:Int},x∈run s n↔s<=x/\x<s+n
 | 0,s,x=>by simp[run]
 | n+1,s,x=>by
  rw[run,List.mem_cons,J5];lia
def Ris(r:Row):Prop:=r.Pairwise (λp q=>p.2<q.1)/\∀ p∈r,p.1<p.2
end gG
namespace gG
open Spec Rows L2 cO dX yr Rz
end gG
namespace gG
open Spec Rows L2 cO dX yr VU
structure cW(K:PySem.W.Frag)(C:Addr)(m cE:Str)(st:Stmt)(ps:List Str)(a:Addr)(d:FuncData):Prop where
 F:NG K m cE st a d
 b:Binds K d ps []
 mt:Hv K C m a
structure ClsAt(K:PySem.W.Frag)(mg:Str->Option Value)(x:Str)(C fi:Addr):Prop where
 cl:JB K C
 m:mg x=⇑↥C
 X0:Mk K C fi
structure VW(K:PySem.W.Frag)(mg:Str->Option Value)(x:Str)(C:Addr):Prop where
 m:mg x=⇑↥C
 x:PySem.W.excIn K C [.type "ValueError",.type "Exception",.type "BaseException",.type "object"] "ValueError.__new__"=true
 h:PySem.W.exmOne K ↥C ↥C=⇑true
end gG
namespace gG
open L2 cO dX
section
variable {p:List Value->Prop}
theorem us0(h:p []):∀ us:List Value,↑us=0->p us:=λus e=>by rw[List.length_eq_zero_iff.mp e];exact h
def usS{n:Nat}(h:∀ a (us:List Value),↑us=n->p (a::us)):∀ us:List Value,↑us=n+1->p us:=by
 intro us e
 cases us with
 | nil=>cases e
 | cons a us=>exact h a us (Nat.succ.inj e)
theorem us1(h:∀ a,p [a]):∀ us:List Value,↑us=1->p us:=usS λa=>us0 (p:=λus=>p (a::us)) (h a)
theorem us2(h:∀ a b,p [a,b]):∀ us:List Value,↑us=2->p us:=usS λa=>us1 (p:=λus=>p (a::us)) (h a)
theorem us3(h:∀ a b c,p [a,b,c]):∀ us:List Value,↑us=3->p us:=usS λa=>us2 (p:=λus=>p (a::us)) (h a)
theorem us4(h:∀ a b c d,p [a,b,c,d]):∀ us:List Value,↑us=4->p us:=usS λa=>us3 (p:=λus=>p (a::us)) (h a)
end
section
variable {K:PySem.W.Frag} {mg:Str->Option Value} {h:Heap} {x cE:Str} {st:Stmt} {f C:Addr} {ps:List Str}
def DI.d(q:DI K x st f)(X:K.In h)(G:h.Ns mainGlobals mg)(b:∀ (kV wg pm:Value) (an:Option Addr) (cJ ct:Value) (us:List Value),↑us=↑ps->bindArgs (fnOf x x (mT st) (iJ st) (aB st) .none kV wg pm an cJ ct) ⟨us,[]⟩=pure (ps.zip us):=by intro _ _ _ _ _ _;first|exact us1 λ_=>rfl|exact us2 λ_ _=>rfl|exact us3 λ_ _ _=>rfl|exact us4 λ_ _ _ _=>rfl|exact us5 λ_ _ _ _ _=>rfl|exact us6 λ_ _ _ _ _ _=>rfl|exact us0 rfl):∃ fd,bX K mg x st ps f fd:=by
 let⟨a,l,c,k⟩:=q;have F:=HL l c k;exact⟨_,F,F.binds b,mg_of X G a⟩
def MI.d(q:MI K C x cE st f)(b:∀ (kV wg pm:Value) (an:Option Addr) (cJ ct:Value) (us:List Value),↑us=↑ps->bindArgs (fnOf x cE (mT st) (iJ st) (aB st) .none kV wg pm an cJ ct) ⟨us,[]⟩=pure (ps.zip us):=by intro _ _ _ _ _ _;first|exact us1 λ_=>rfl|exact us2 λ_ _=>rfl|exact us3 λ_ _ _=>rfl|exact us4 λ_ _ _ _=>rfl|exact us5 λ_ _ _ _ _=>rfl|exact us6 λ_ _ _ _ _ _=>rfl|exact us0 rfl):∃ fd,cW K C x cE st ps f fd:=by
 let⟨a,i,l,c,k⟩:=q;have F:=HL l c k;exact⟨_,F,F.binds b,⟨a,i,k⟩⟩
def CI.d(q:CI K x C)(X:K.In h)(G:h.Ns mainGlobals mg)(m:Hv K C "__init__" fi):ClsAt K mg x C fi:=by
 let⟨a,pg,hd,po,sa,mk,kc⟩:=q;let⟨a1,i1,k1⟩:=m;exact⟨⟨pg,hd,po,sa⟩,mg_of X G a,⟨mk,a1,i1,kc⟩⟩
def XI.d(q:XI K x C)(X:K.In h)(G:h.Ns mainGlobals mg):VW K mg x C:=by
 let⟨a,b,c⟩:=q;exact⟨mg_of X G a,b,c⟩
end
end gG
namespace cO
open Spec Rows L2
theorem ur{α β:Type}{F:α->β->Prop}:∀ {xs:List α} {ys:List β} {i:Nat} {x:α},Paired F xs ys->xs[i]?=⇑x->∃ y,ys[i]?=⇑y/\F x y
 | _,_,_,_,.nil,e=>by simp at e
 | _,_,0,_,.cons r _,e=>by simp at e;subst e;exact⟨Y,r⟩
 | _,_,i+1,x,.cons _ t,e=>by
  let⟨y,h1,h2⟩:=ur (i:=i) (x:=x) t (by simpa using e);exact⟨y,by simpa using h1,h2⟩
theorem ya{α β:Type}{F:α->β->Prop}:∀ {xs:List α} {ys:List β} {i:Nat} {y:β},Paired F xs ys->ys[i]?=⇑y->∃ x,xs[i]?=⇑x/\F x y
 | _,_,_,_,.nil,e=>by simp at e
 | _,_,0,_,.cons r _,e=>by simp at e;subst e;exact⟨Y,r⟩
 | _,_,i+1,y,.cons _ t,e=>by
  let⟨x,h1,h2⟩:=ya (i:=i) (y:=y) t (by simpa using e);exact⟨x,by simpa using h1,h2⟩
section
variable {X:Cx} {N:List Str} {scope:Scope} {cl:List (Str × Addr)} {C:Addr} {s₀:Shared} {H₀:Hp} {ex:List Addr} {pn:List (Addr × Obj)} {e:Expr} {ta:TE} {f:Str} {pos:Pos}
theorem J6(he:PE (jo X N scope cl C s₀ H₀ ex pn) e ta)(hb:attributeBase e f (jo X N scope cl C s₀ H₀ ex pn).env (eval e (jo X N scope cl C s₀ H₀ ex pn).env)=eval e (jo X N scope cl C s₀ H₀ ex pn).env):PE (jo X N scope cl C s₀ H₀ ex pn) (.Attribute e f pos) (YV X.K ta f):=dH he hb
end
end cO
namespace cO
open Spec Rows L2 gG yr
def VX(td ty tx:TE):TE:=fun σ H Q=>td σ H λx H1=>∃ a,x=↥a/\IsD H1 a/\ty σ H1 λy H2=>tx σ H2 λz H3=>∃ kvs k,H3 a=⇑(.dK kvs)/\y=kV k/\↑kvs<sizeLine/\
 (∀ v,cC kvs k=⇑v->Q v H3)/\(cC kvs k=none->Q z (aM H3 a (.dK (eE kvs k z))))
def Om{X:Cx}{o e f:Expr}{td ty tx:TE}(ho:PE X o td)(he:PE X e ty)(hf:PE X f tx)(m:M2 X o "setdefault" jh e f iU):PE X (.Call (.Attribute o "setdefault" jh) [e,f] [] iU) (VX td ty tx):=by
 intro ak s σ H Q I h;refine wpAny_Call_method m.zt m.few m.line PySem.F.plainAttrs_dict PySem.F.slot_dict_setdefault PySem.F.type_dict_setdefault (cI (ho ak s σ H _ I h) λu s1 CM=>?_);let⟨x,H1,I1,rx,a,ex,d,q1⟩:=CM;subst ex;obtain rfl:u=Value.ref a:=rx;let⟨t1,t2,_⟩:=VR I1 d;exists t1,t2;rw[m.trees]
 refine Calls.callWith_builtin rfl (Calls.evalArgs_plain (Calls.spliced_cons (cI (he ak s1 σ H1 _ I1 q1) λiv s2 ⟨y,H2,I2,ry,q2⟩ =>
  Calls.spliced_cons (cI (hf ak s2 σ H2 _ I2 q2) λfv s3 ⟨z,H3,I3,rz,kvs,k,ea,ey,cZ,g1,g2⟩=>Calls.spliced_nil ?_))))
 subst ey;let⟨hz,hd,vs,vS,dd⟩:=Oc I3.hok ea;have len:=↑vS;refine call_meetsIn PySem.F.slot_dict_setdefault dd.typeIs PySem.F.entry_dict_setdefault (PySem.F.args_dict_setdefault_3 _ _ _) (kt_meets_setdefault (fX X.prog X.w) a (Ca ry) hd fv) ⟨vs,dd,Q,λv hv=>?_,λhn h' Qm hs=>?_⟩
 ·have r:=vS.val k;rw[hv]at r
  cases ev:cC kvs k with
  | none=>rw[ev]at r;exact (show False from r).elim
  | some w =>
   rw[ev]at r;exact⟨w,H3,I3.tok _,r,g1 w ev⟩
 ·have r:=vS.val k;rw[hn]at r
  cases ev:cC kvs k with
  | some w=>rw[ev]at r;exact (show False from r).elim
  | none =>
   have hl:↑(eE kvs k z)<=sizeLine:=by have:=iu kvs k z;lia
   have he':∃ q,h'.get? a=⇑q:=let ⟨q,P,hq,_⟩:=Qm;⟨q,hq⟩;exact⟨z,_,yS I3 (by rw[ea];exact True.intro) hs he' (Ic hl hd (vS.put k rz) Qm),rz,g2 ev⟩
end cO
namespace cO
open Spec Rows L2
end cO
namespace cO
open Spec Rows L2 gG yr
end cO
namespace dX
open Spec Rows PySem.W L2
section
variable {X:Cx} {o:Expr} {m:Str} {ps:List Str} {f C:Addr} {fd:FuncData} {k:Nat} {sp:Sp} {e:Expr} {es:List Expr} {ta:TE} {t:TA} {jh pos:Pos} {E:XK} {pl:Sem Bool}
theorem Oo{σ:L2.St}{H:Hp}{s:Shared}{Q:VK}{E':Value->Shared->Prop}(ho:PE X.EI o ta)(c:JB X.K C)(hm:Hv X.K C m f)(hb:Binds X.K fd ps [])(G:aY X.prog X.w X.K X.mg X.zt (Es X.prog X.w) k f fd ps sp)(hr:gT k X.A)(ha:PA X.EI (e::es) t)(I:Inv X ak σ H s)
  (h:ta σ H λx H1=>∃ a dx fs,x=↥a/\H1 a=⇑(.ins C dx fs)/\fs.lookup m=none/\t σ H1 λvs H2=>sp (x::vs) H2 Q E) (hE:∀ H1 s1 e s',Inv X ak σ H1 s1->Es X.prog X.w X.stack H1 s1 E e s'->E' e s')
  (he:starEach (e::es) X.env=(false,eval e X.env)::starEach es X.env) (sN:(backTo pos (starEach es X.env)).any (·.1)=false)
  (ht:eval (.Call (.Attribute o m jh) (e::es) [] pos) X.env=(do
   let ov ← eval o X.env
   standAt jh.atName
   let (f,first) ← holding [ov] (getMethod ov m pl)
   callWith pos f first (backTo pos (starEach (e::es) X.env)) (backToKw pos (keywordEach [] X.env)))):wpAny (model X.prog X.w) X.A (eval (.Call (.Attribute o m jh) (e::es) [] pos) X.env) (EP X ak σ Q) E' s:=by
 refine PySem.W.methodCall_KW (pl:=pl) (wpAny_mono (ho ak s σ H _ (I.yp _) h) (λu s1 ⟨x,H1,I1,rx,a,dx,fs,ex,ea,l,q⟩=>?_) λ_ _ z=>False.elim z) ht;subst ex;obtain rfl:u=Value.ref a:=rx;have I1:=I1.lM;refine tR I1 ea c hm l ?_
 refine callWith_K (first:=[↥a]) (h₀:=X.zt) I.ok.mod.UP hm.kp (wpAny_mono (ha pos ak s1 σ H1 _ (I1.yp _) q) (λus s2 ⟨vs,H2,I2,r,q2⟩=>⟨I2.lM.oB,?_⟩) λ_ _ z=>False.elim z) he sN
 have I2:=I2.lM;have r2:b8 (.ref a::vs) (Value.ref a::us):=.cons rfl r;have hl:↑((Value.ref a::us)++[])=↑ps:=by rw[ic,← ↑r2];exact G.len _ _ _ _ q2
 have B:=hb s2 (.ref a::us) I2.oB hl;rw[ic]at B;refine wpAny_call (codeAny_mono (G.run X.A X.stack s2 H2 ⟨↥a::us,[]⟩ (.ref a::us) (.ref a::vs) Q E hr I2.QF B r2 q2) λr s' hq=>?_)
 cases r with
 | error e=>exact hE H2 s2 e s' I2 hq
 | ok fl =>
  cases fl with
  | ret u=>exact I2.after hq
  | next=>exact False.elim hq
  | brk=>exact False.elim hq
  | cont=>exact False.elim hq
end
end dX
namespace cO
open Spec Rows L2 dX
def yU(c:Nat):V:=.str ⟨#[c]⟩
def fk(cs:List Nat):Str:=⟨cs.toArray⟩
def Dl(x:Str):fk x.cps.toList=x:=by cases x;rfl
def pN(cs:List Nat):↑(fk cs)=↑cs:=by show (cs.toArray).size=_;simp
def RA{a b:List Nat}(h:fk a=fk b):a=b:=by
 have e:=congrArg (λx:Str=>x.cps.toList) h;simpa [fk] using e
theorem J7:∀ {cs:List Nat} {us:List Value},b8 (cs.map yU) us->StrsAre us (cs.map λc=>(⟨#[c]⟩:Str))
 | [],_,.nil=>.nil
 | c::cs,_,.cons ⟨t,e⟩ r=>by
  subst e;exact .cons _ t (J7 r)
def Im(cs:List Nat):Txt.join (Str.ofString "") (cs.map λc=>(⟨#[c]⟩:Str))=fk cs:=by
 have e:Txt.join (Str.ofString "") (cs.map λc=>(⟨#[c]⟩:Str))=Str.join (Str.ofString "") (cs.map λc=>(⟨#[c]⟩:Str)):=by
  have z:=join_plain_closes (Str.ofString "") (cs.map λc=>(⟨#[c]⟩:Str));exact beq_iff_eq.mp z
 rw[e];have em:(Str.ofString "")=(⟨#[]⟩:Str):=by decide +kernel
 rw[em];clear e em
 induction cs with
 | nil=>rfl
 | cons c cs ih =>
  cases cs with
  | nil=>rfl
  | cons d cs =>
   rw[jy]at ih;have s:Str.join ⟨#[]⟩ ((c::d::cs).map λc=>(⟨#[c]⟩:Str))=Str.append (Str.append ⟨#[c]⟩ ⟨#[]⟩) (Str.join ⟨#[]⟩ ((⟨#[d]⟩:Str)::cs.map λc=>(⟨#[c]⟩:Str))):=rfl;rw[s,ih];show (⟨(#[c]++#[])++(d::cs).toArray⟩:Str)=⟨(c::d::cs).toArray⟩;simp
theorem Cj:∀ cs:List Nat,(cs.map ((λx:Str=>↑x) ∘ λc=>(⟨#[c]⟩:Str))).sum=↑cs
 | []=>rfl
 | c::cs=>by rw[jy,List.sum_cons,Cj cs,kX];show 1+_=_;lia
theorem all_range:∀ bs:List Bool,(List.range ↑bs).all (λi=>bs.getD i false)=bs.all id
 | []=>rfl
 | b::bs=>by
  rw[kX,List.range_succ_eq_map,List.all_cons,List.all_map,List.all_cons,← all_range bs];rfl
section
variable {X:Cx}
def A3(hc:X.calm=true):j8 X (.type "list") (λxs H Q=>∃ cs:List Nat,xs=[.str (fk cs)]/\↑cs<=sizeLine/\∀ l,H l=none->Q ↥l (aM H l (.lst (cs.map yU)))):=by
 intro ak s σ H xs us Q I r h;let⟨cs,rfl,hz,q⟩:=h;let⟨u,rfl,t,rfl⟩:=r.one;refine call_list_str (I.ok.hd hc) (fk cs) t (hn:=by show cs.toArray.size<=_;simpa using hz) λh' tk qq c' hk hS cK=>?_;refine⟨↥s.heap.objs.size,_,I.laid (o:=.lst (cs.map yU)) (t':=tk) hk (fT _) ⟨by rw[cy];exact hz,qq.toList,c',?_,by simpa using hS⟩,rfl,q _ (I.hok.fresh (fT _))⟩
 have key:∀ (cs:List Nat) (us:List Value),↑us=↑cs->(∀ (j:Nat) (v:Value),us[j]?=⇑v->∃ c u,cs[j]?=⇑c/\v=Value.str ⟨#[c]⟩ u)->b8 (cs.map yU) us:=by
  intro cs
  induction cs with
  | nil=>intro us hl _;cases us with
   | nil=>exact .nil
   | cons=>simp at hl
  | cons c cs ih=>intro us hl hp;cases us with
   | nil=>simp at hl
   | cons u us =>
    let⟨c',t',e1,e2⟩:=hp 0 u rfl;refine .cons ?_ (ih us (by simpa using hl) λj v e=>by simpa using hp (j+1) v (by simpa using e));have:c=c':=by simpa using e1
    subst this;exact⟨t',e2⟩
 refine key cs qq.toList (by have:=cK.1;simpa [fk] using this) λj v e=>?_;let⟨c,u,e1,e2⟩:=cK.2 j v (by simpa using e);exact⟨c,u,by simpa [fk] using e1,e2⟩
def zR:XW X "str.join" (λx xs H Q=>∃ (l:Addr) (cs:List Nat),x=.str ""/\xs=[↥l]/\H l=⇑(.lst (cs.map yU))/\↑cs<=1000000/\Q (.str (fk cs)) H):=by
 intro ak s σ H x xs v us Q I rx rs h;let⟨l,cs,rfl,rfl,hl,hz,q⟩:=h;let⟨t,rfl⟩:=rx;let⟨u,rfl,ru⟩:=rs.one;cases (show u=Value.ref l from ru);let⟨aP,rv,pl,_⟩:=I.list (bC.of (K:=X.K) hl);refine join_list pl.isList (J7 rv) ?_ λt' k=>?_
 ·rw[List.map_map];have e1:↑(Str.ofString "")=0:=by decide +kernel
  have e2:=Cj cs;rw[e1,e2];lia
 ·rw[Im];exact⟨.str (fk cs),H,I.tok _,⟨t',rfl⟩,q⟩
def LG(hc:X.calm=true):j8 X (.builtin "all") (λxs H Q=>∃ (p:Addr) (bs:List Bool),xs=[↥p]/\bC X.K H p (bs.map V.bl)/\Q (.bl (bs.all id)) H):=by
 intro ak s σ H xs us Q I r h;let⟨p,bs,rfl,hq,q⟩:=h;let⟨u,rfl,rx⟩:=r.one;cases (show u=Value.ref p from rx);let⟨aP,rv,pl,hz⟩:=I.list hq;have len:=↑rv;rw[cy]at len;have sN:=pl.isList
 have plt:p<s.heap.objs.size:=by
  let⟨o,ho,_⟩:=sN;exact Heap.lt_size ho
 refine call_all_walk (wpAny_pyIter_list sN ?_);refine⟨s.heap.objs.size,[s.heap.objs.size,p],[s.heap.objs.size],aP.toArray.size,P,λi=>bs.getD i false,rfl,Walks.list (A:=X.A.in1) (I.ok.hd hc) s.heap.objs.size p (jM plt) aP.toArray,⟨⟨_,Heap.get?_push_size _ rfl,V⟩,sN.at λo e=>Heap.get?_push_of_some _ e⟩,λi v s' Q' E' hP hQ=>?_,λh' tk hk=>?_⟩
 ·have hv:aP[i]?=⇑v:=by simpa using hP
  let⟨x,ex,er⟩:=ya rv hv;rw[gf]at ex;let⟨b,eb,rfl⟩:=Option.map_eq_some_iff.mp ex;cases (show v=Value.bool b from er);refine wpAny_truthy_bool ?_;have e:bs.getD i false=b:=by rw[List.getD_eq_getElem?_getD,eb];rfl
  have hQ':Q' (bs.getD i false) s':=hQ;rw[e]at hQ';exact hQ'
 ·have e:(List.range aP.toArray.size).all (λi=>bs.getD i false)=bs.all id:=by
   rw[gZ,← len];exact all_range bs
  rw[e];exact⟨.bl (bs.all id),H,I.kept λb o e=>hk b o (λz=>by rw[List.mem_singleton.mp z]at e;exact absurd (Heap.lt_size e) (Nat.lt_irrefl _)) (Heap.get?_push_of_some _ e),rfl,q⟩
def Oq(r r' r2:R2)(ta tb tc td:TE):TE:=fun σ H Q=>ta σ H λx H1=>tb σ H1 λy H2=>r x y H2 λz H3=>∃ k,z=.bl k/\
 (if k=true then tc σ H3 λu H4=>r' y u H4 λz' H5=>∃ k',z'=.bl k'/\(if k'=true then td σ H5 λv H6=>r2 u v H6 Q else Q (.bl false) H5) else Q (.bl false) H3)
theorem LH{op GZ VL:CmpOp}{r r' r2:R2}{a b c d:Expr}{ta tb tc td:TE}(ho:uJ X (compareOp op) r)(KO:uJ X (compareOp GZ) r')(VM:uJ X (compareOp VL) r2)(ha:PE X a ta)(hb:PE X b tb)(hc:PE X c tc)(hd:PE X d td)
  (hm:lastMarks [op,GZ,VL] [b,c,d]=false:=by with_unfolding_all rfl):PE X (.Compare a [op,GZ,VL] [b,c,d] pos) (Oq r r' r2 ta tb tc td):=by
 intro ak s σ H Q I h
 refine Compare_chain (cI (ha ak s σ H _ I h) λv s1 ⟨x,H1,I1,r1,q1⟩=>chain_link (cI (hb ak s1 σ H1 _ I1 q1) λu s2 ⟨y,H2,I2,r2',q2⟩ =>
  cI (ho ak s2 σ H2 x y v u _ I2 r1 r2' q2) λz s3 ⟨z',H3,I3,r3,k,e,q3⟩=>?_)) hm
 subst e;cases r3;refine wpAny_truthy_bool ?_
 cases k with
 | false=>exact ite_ff ⟨.bl false,H3,I3,rfl,q3⟩
 | true =>
  refine ite_tt (chain_link (cI (hc ak s3 σ H3 _ I3 q3) λv4 s4 ⟨x4,H4,I4,r4,q4⟩=>cI (KO ak s4 σ H4 y x4 u v4 _ I4 r2' r4 q4) λz5 s5 CN=>?_));let⟨x5,H5,I5,r5,k5,e5,q5⟩:=CN;subst e5;cases r5;refine wpAny_truthy_bool ?_
  cases k5 with
  | false=>exact ite_ff ⟨.bl false,H5,I5,rfl,q5⟩
  | true=>exact ite_tt (chain_last (cI (hd ak s5 σ H5 _ I5 q5) λv6 s6 ⟨x6,H6,I6,r6,q6⟩=>VM ak s6 σ H6 x4 x6 v4 v6 Q I6 r4 r6 q6))
end
def Its(cs:List Nat):It:=⟨λi _=>i<↑cs,λi H x H'=>H'=H/\∃ c,cs[i]?=⇑c/\x=yU c,λi _=>i=↑cs⟩
theorem Fv{P:Program}{w:World}{K:PySem.W.Frag}{it:Addr}{cs:List Nat}{t:Tok}{ty:String}(W:∀ A':Around,A'.handled=none->Walks P w A' it [it] [it] (fk cs).cps.size (SignAt (fk cs)) (λi h=>h.IsStrIter it ty (fk cs) t i))
  (hs:∀ (A:Around) (i:Nat) (s:Shared) (Q:Value->Shared->Prop) (E:Value->Shared->Prop),s.heap.IsStrIter it ty (fk cs) t i->Q ↥it s->wpAny (model P w) A (pyIter ↥it) Q E s)
  (hn:["enumerate","zip","dict_itemiterator","dict_reverseitemiterator","odict_iterator","itertools.zip_longest","itertools.pairwise"].contains ty=false):Hq P w K tg (Its cs) [it] it (λi h=>h.IsStrIter it ty (fk cs) t i) where
 mem:=by simp
 obj:=λi h st b hb=>by
  have e:b=it:=by simpa using hb
  subst e;let⟨o,e,c,d⟩:=st;exact⟨o,e,λv z=>by rw[d]at z;cases z⟩
 keep:=λi h h' st k=>by
  let⟨o,e,r⟩:=st;exact⟨o,k it (by simp) o e,r⟩
 item:=by
  intro X hP hw hK hc i ak s σ H E I hf st hg;subst hP hw hK;let⟨f0,f1,f2,f3,f4,f5⟩:=hf it (by simp)
  have hi:i<(fk cs).cps.size:=by
   show i<cs.toArray.size;rw[gZ];exact hg
  refine (W X.A (I.ok.hd hc)).item i s _ _ hi st λv h' tk hv CO kk=>?_;let⟨c,u,ec,rfl⟩:=hv;have I1:Inv X ak σ H { s with heap:=h',toks:=tk }:=I.turned (λb o hb e=>kk b o (by simpa using hb) e) f0 f1 f3 f4 f5;let⟨oi,ei,ci,di⟩:=id CO;exact⟨Y,EL (s:={ s with heap:=h',toks:=tk }) ei ci di hn ⟨yU c,H,I1,⟨u,rfl⟩,⟨rfl,c,by simpa [fk] using ec,rfl⟩,CO,λb hb=>(hf b hb).1⟩⟩
 done:=by
  intro X hP hw hK hc i ak s σ H E I hf st hg;subst hP hw hK;let⟨f0,f1,f2,f3,f4,f5⟩:=hf it (by simp)
  have e:i=(fk cs).cps.size:=by
   show i=cs.toArray.size;rw[gZ];exact hg
  rw[e]at st;exact (W X.A (I.ok.hd hc)).done s _ _ st λh' tk kk=>⟨rfl,I.turned (λb o hb e=>kk b o (by simpa using hb) e) f0 f1 f3 f4 f5⟩
 self:=hs
def aem(tl:TE):TI:=fun σ H R=>tl σ H λx H1=>∃ cs,x=.str (fk cs)/\R (Its cs) H1
def VY{X:Cx}{l:Expr}{tl:TE}(hl:PE X l tl):PI X tg l (aem tl):=by
 intro ak s σ H R I h;refine cI (hl ak s σ H _ I h) λv s1 EE=>?_;let⟨x,H1,I1,r1,q1⟩:=EE;let⟨cs,e,q⟩:=q1;subst e;let⟨t,rfl⟩:=r1
 have fp:∀ b∈[s1.heap.objs.size],oO X ak H1 b:=λb hb=>by
  have e:b=s1.heap.objs.size:=by simpa using hb
  subst e;exact I1.KQ (fT _) (I1.hok.fresh (fT _))
 cases ha:(fk cs).cps.all (·<128) with
 | true=>exact wpAny_pyIter_ascii ha ⟨s1.heap.objs.size,[s1.heap.objs.size],P,H1,rfl,I1.kept (t':=s1.toks) λb o e=>Heap.get?_push_of_some _ e,Fv (t:=t) (λA' hA=>Walks.strAscii hA _ _ t) (λ_ _ _ _ _ st h=>wpAny_pyIter_striter_ascii st h) (by decide),⟨_,Heap.get?_push_size _ rfl,V⟩,fp,q⟩
 | false=>exact wpAny_pyIter_wide ha ⟨s1.heap.objs.size,[s1.heap.objs.size],P,H1,rfl,I1.kept (t':=s1.toks) λb o e=>Heap.get?_push_of_some _ e,Fv (t:=t) (λA' hA=>Walks.strWide hA _ _ t) (λ_ _ _ _ _ st h=>wpAny_pyIter_striter_wide st h) (by decide),⟨_,Heap.get?_push_size _ rfl,V⟩,fp,q⟩
theorem LI{cs:List Nat}{g:TG}{tt:TT}{te:TE}{σ0:L2.St}{H:Hp}{Q:VK}(Pv:Nat->L2.St->Hp->Prop)(h0:Pv 0 σ0 H)
  (hs:∀ (i:Nat) c σ H,cs[i]?=⇑c->Pv i σ H->g (yU c) σ H fun σ2 H2=>tt σ2 H2 λb H3=>if b=true then te σ2 H3 λv H4=>∃ ys,H4 acc=⇑(.lst ys)/\↑ys<sizeLine/\Pv (i+1) σ2 (aM H4 acc (.lst (ys++[v]))) else Pv (i+1) σ2 H3)
  (hd:∀ σ H,Pv ↑cs σ H->Q ↥acc H):yT (Its cs) acc g tt te σ0 H Q:=by
 refine⟨λi m σ H=>m=↑cs-i/\i<=↑cs/\Pv i σ H,⟨↑cs,by simp,Nat.zero_le _,h0⟩,?_⟩;rintro i m σ H ⟨rfl,hi,p⟩;by_cases qz:i<↑cs
 ·refine .inr ⟨qz,Pv (i+1),fun σ' H' p'=>⟨↑cs-(i+1),Q,rfl,qz,p'⟩,λx H' y=>?_⟩;let⟨e,c,y,ex⟩:=y;subst e ex;exact hs i c σ _ y p
 ·have e:i=↑cs:=by lia
  subst e;exact .inl ⟨rfl,hd σ H p⟩
end cO
namespace cO
open Spec Rows L2 dX gG
section
variable {X:Cx}
def Dm(a b:List Nat):fk a++fk b=fk (a++b):=by
 show (⟨a.toArray++b.toArray⟩:Str)=⟨(a++b).toArray⟩;simp
end
end cO
namespace uu
end uu
namespace uu
open Spec Rows
end uu
namespace uu
open Spec Rows
end uu
namespace uu
open Spec Rows
end uu
namespace uu
open Spec Rows
end uu
namespace uu
open Spec Rows
end uu
namespace uu
open Spec Rows
end uu
namespace uu
open Spec Rows L2
end uu
namespace iY
open Spec Rows L2 cO Builtin Builtin.Str
def vh(cs:List Nat):(fk cs).cps.toList=cs:=by simp[fk]
def jn(c:Nat):iH->List Nat
 | []=>[]
 | [x]=>x
 | x::y::r=>x++c::jn c (y::r)
theorem Ot(c:Nat):∀ ps:iH,Str.join ⟨#[c]⟩ (ps.map fk)=fk (jn c ps)
 | []=>rfl
 | [x]=>rfl
 | x::y::r=>by
  show fk x++⟨#[c]⟩++Str.join ⟨#[c]⟩ ((y::r).map fk)=_;rw[Ot c (y::r)];refine ext_toList ?_;rw[vh];show ((fk x).cps++#[c]++(fk (jn c (y::r))).cps).toList=_;rw[Array.toList_append,Array.toList_append,vh,vh];simp[jn]
end iY
namespace iY
open Spec Rows L2 cO Builtin Builtin.Str
section
variable {X:Cx}
theorem Ck:∀ {ys:List Str} {us:List Value},b8 (ys.map V.str) us->StrsAre us ys
 | [],_,.nil=>.nil
 | _::_,_,.cons r t=>by
  let⟨t',rfl⟩:=r;exact .cons _ t' (Ck t)
def Fw:XW X "str.join" (λx xs H Q=>∃ (l:Addr) (c:Nat) (ps:iH),x=.str ⟨#[c]⟩/\xs=[↥l]/\H l=⇑(.lst (ps.map λw=>V.str (fk w)))/\(ps.map List.length).sum+↑ps<=1000000/\Q (.str (fk (jn c ps))) H):=by
 intro ak s σ H x xs v us Q I rx rs h;let⟨l,c,ps,rfl,rfl,hl,hz,q⟩:=h;let⟨t,rfl⟩:=rx;let⟨u,rfl,ru⟩:=rs.one;cases (show u=Value.ref l from ru);let⟨aP,rv,pl,_⟩:=I.list (bC.of (K:=X.K) hl);have rv':b8 ((ps.map fk).map V.str) aP:=by rw[List.map_map];exact rv
 refine join_list pl.isList (Ck rv') ?_ λt' k=>?_
 ·rw[List.map_map,cy];have e1:↑(⟨#[c]⟩:Str)=1:=rfl;have e2:ps.map ((λx:Str=>↑x) ∘ fk)=ps.map List.length:=List.map_congr_left λp _=>pN p;rw[e1,e2];lia
 ·have e:Txt.join ⟨#[c]⟩ (ps.map fk)=fk (jn c ps):=by
   show glued _ _=_;rw[StrLaws.glued_eq_join,Ot]
  rw[e];exact⟨.str (fk (jn c ps)),H,I.tok _,⟨t',rfl⟩,q⟩
abbrev TJV:=L2.St->Hp->Str->(Str->Hp->Prop)->Prop
def X3(X:Cx)(es:List Expr)(m:Nat)(t:TJV):Prop:=∀ (ak:List (Addr × Obj)) (s:Shared) (σ:L2.St) (H:Hp) (out:Str) (Q:Str->Hp->Prop),L2.Inv X ak σ H s->t σ H out Q->↑out+m<=1000000->
 wpAny (model X.prog X.w) X.A (joinParts out (evalEach es X.env)) (λu s'=>∃ x tk H',u=.str x tk/\L2.Inv X ak σ H' s'/\Q x H') X.xe s
theorem RB:X3 X [] 0 (λ_ H out Q=>Q out H):=λak s σ H out Q I h hl =>
 joinParts_nil ⟨out,_,H,rfl,I.tok _,h⟩ (gQ (Nat.lt_of_le_of_lt hl (by decide)))
def RC{x:Str}{j:Nat}{es:List Expr}{m:Nat}{t:TJV}(h:X3 X es m t):X3 X (.Constant (.str x) j pos::es) (↑x+m) (fun σ H out Q=>t σ H (out++x) Q):=by
 intro ak s σ H out Q I q hl;refine joinParts_consE (joinParts_cons (Calls.Constant_str ?_));have z:=dX.yR (y:=x) hl (fT _);exact⟨z.1,h ak _ σ H _ Q (I.tok _) q z.2⟩
def J8{e:Expr}{te:TE}{es:List Expr}{m:Nat}{t:TJV}(he:PE X e te)(h:X3 X es m t):X3 X (.FormattedValue e (-1) none pos::es) (1921+m) (fun σ H out Q=>te σ H λv H1=>∃ i:Int,v=.int i/\i.natAbs.log2<1920/\t σ H1 (out++Str.ofString (toString i)) Q):=by
 intro ak s σ H out Q I q hl;refine joinParts_consE (joinParts_cons (FormattedValue_plain (cI (he ak s σ H _ I q) λv s1 AW=>?_)));let⟨x,H1,I1,r1,i,e1,hi,q1⟩:=AW;subst e1;let⟨tk,rfl⟩:=r1;refine formatField_int_small hi ?_;have z:=dX.yR (y:=Str.ofString (toString i)) hl (int_text_len_1921 hi);exact⟨z.1,h ak _ σ H1 _ Q (I1.tok _) q1 z.2⟩
def Ou{m9:List Expr}{m:Nat}{t:TJV}(h:X3 X (v1::v2::m9) m t)(hm:m<=1000000:=by decide +kernel):PE X (.JoinedStr (v1::v2::m9) pos) (fun σ H Q=>t σ H Str.empty λx H1=>Q (.str x) H1):=by
 intro ak s σ H Q I q;refine JoinedStr_many (cI (h ak s σ H Str.empty _ I q (by show 0+m<=_;lia)) λu s1 ED=>?_);let⟨x,tk,H1,e,I1,q1⟩:=ED;subst e;exact⟨.str x,H1,I1,⟨Y⟩,q1⟩
end
end iY
namespace iY
open Spec Rows L2 cO Builtin Builtin.Str
end iY
namespace iY
open Spec Rows L2 cO Builtin Builtin.Str gG
def dg(n:Int):List Nat:=(Nat.toDigits 10 n.toNat).map Char.toNat
def yV{n:Int}(h:0<=n):Str.ofString (toString n)=fk (dg n):=by
 refine ext_toList ?_;rw[vh];obtain⟨m,rfl⟩:∃ m:Nat,n=(m:Int):=⟨n.toNat,Q⟩;exact PySem.W.KIN.signs_num m
def Io{n:Int}(h0:0<=n)(h1:n<10^60):↑(dg n)<=60:=by
 have:=toString_length_le h0 (k:=60) (by decide) h1;rw[yV h0,pN]at this;exact this
end iY
namespace iY
open Spec Rows L2 cO Builtin Builtin.Str gG
end iY
namespace aen
open Spec Rows PySem.W L2 cO dX
end aen
namespace A4
open Spec Rows L2 cO dX gG
end A4
namespace A4
open Spec Rows L2 cO dX gG PySem.W
section
variable {X:Cx}
def ZD{e:Expr}{te:TE}(he:PE X e te):PE X (.JoinedStr [.FormattedValue e (-1) none pos] gS) (fun σ H Q=>te σ H λv H1=>(∃ i:Int,v=.int i/\i.natAbs.log2<1920/\Q (.str (Str.ofString (toString i))) H1)\/∃ cs:List Nat,v=.str (fk cs)/\↑cs<=100000/\Q (.str (fk cs)) H1):=by
 intro ak s σ H Q I q;refine JoinedStr_one (FormattedValue_plain (cI (he ak s σ H _ I q) λv s1 CN=>?_));let⟨x,H1,I1,r1,h1⟩:=CN;rcases h1 with ⟨i,rfl,hi,q1⟩|⟨cs,rfl,hc,q1⟩
 ·let⟨tk,rfl⟩:=r1;exact formatField_int_small hi ⟨.str _,H1,I1.tok _,⟨Y⟩,q1⟩
 ·let⟨tk,rfl⟩:=r1;exact formatField_str (λt' k=>⟨.str _,H1,I1.tok _,⟨Y⟩,q1⟩) (by rw[pN];exact jv hc (by decide))
end
end A4
namespace A4
open Spec Rows L2 cO dX gG iY Builtin Builtin.Str
end A4
namespace A4
open Spec Rows L2 cO Builtin Builtin.Str gG
end A4
namespace dX
open Spec Rows PySem.W L2
def Ov(c:Value)(a dx:Addr):HO:=.ext λh=>∃ vs,h.get? a=some { cls:=c,dict:=⇑dx,data:=.fields vs }
section
variable {X:Cx} {ak:List (Addr × Obj)} {σ:L2.St} {H:Hp} {s:Shared} {a:Addr} {o:HO}
def LJ{ob:Obj}{vs:Array Value}(I:Inv X ak σ H s)(h0:X.s₀.heap.get? a=none)(hn:H a=none)(he:s.heap.get? a=⇑ob)(hd:ob.data=.fields vs)(hp:∀ p∈X.pn++ak,p.1≠a)(new:cV X.prog X.w (aM H a o) s.heap a o):Inv X ak σ (aM H a o) s:=by
 have up:∀ {b:Addr} {u:HO},H b=⇑u->aM H a o b=⇑u:=λq=>by rw[aG (az q hn)];exact q
 refine { ok:=I.ok,os:=I.os,bare:=I.bare,zt:=⟨I.zt.keep,I.zt.slot,λb u q n hx=>?_,I.zt.there,λb xs q=>up (I.zt.tups b xs q),λb u v q=>up (I.zt.tM b u v q),λb ps q=>?_⟩,loc:=I.loc,cell:=I.cell,free:=?_,j7:=λx c q=>?_,pin:=λp q=>?_,hok:=λb u q=>?_,len:=I.len }
 ·rw[aG λz=>by rw[z,h0]at q;cases q];exact I.zt.free b u q n hx
 ·let⟨m,e⟩:=I.zt.uL b ps q;exact⟨m,up e⟩
 ·let⟨m,⟨o',es,ep,ho,hq,_⟩,_⟩:=I.loc;rw[aG λz=>by rw[z,he]at ho;cases ho;rw[hd]at hq;cases hq];exact I.free
 ·let⟨v,o',ho,hq⟩:=I.cell x c q;rw[aG λz=>by rw[z,he]at ho;cases ho;rw[hd]at hq;cases hq];exact I.j7 x c q
 ·let⟨q1,q2,q3⟩:=I.pin p q;exact⟨q1,by rw[aG (hp p q)];exact q2,q3⟩
 ·by_cases z:b=a
  ·subst z;rw[ah]at q;cases q;exact new
  ·rw[aG z]at q;exact (I.hok b u q).stay (λ_ _ _ y=>y) (λc y=>up y) λc xs y=>up y
def J9{M:Model}{A:Around}{E:Value->Shared->Prop}{i:Nat}{n:Str}{Q:Unit->Shared->Prop}(I:Inv X ak σ H s)(hN:X.N.Nodup)(hi:X.N[i]?=⇑n)(hx:X.env.scope.names.lookup n=⇑.local)(h:∀ s',Inv X ak (σ.set i none) H s'->Q () s'):wpAny M A (do bindName X.env n .none;unbindBehindTheSuite X.env n pos) Q E s:=by
 let⟨m,hn,hl⟩:=id I.loc;have M0:=I.M0;refine PySem.wpAny_nameGoes_keeps hx hn (by rw[I.ok.kind];rfl) λh' v TR hs=>h _ ?_;have nl:∀ b o,X.s₀.heap.get? b=⇑o->b≠X.env.locals:=λb o e=>jM (oG (Heap.lt_size e) I.ok.above);refine⟨I.ok,I.os,I.bare,⟨λb o e k hb hx=>(hs.2 b (nl b o e)).trans (I.zt.keep b o e k hb hx),λb o e k hb hx=>?_,I.zt.free,λb o e hx=>?_,I.zt.tups,I.zt.tM,I.zt.uL⟩,⟨_,TR,λj y v' e1 e2 e3=>?_⟩,λy c e=>?_,I.free,I.j7,λp hp=>?_,λb u q=>?_,by simpa using I.len⟩
 ·let⟨sl,e1⟩:=I.zt.slot b o e k hb hx;exact⟨sl,(hs.2 b (nl b o e)).trans e1⟩
 ·let⟨o',e1⟩:=I.zt.there b o e hx;exact⟨o',(hs.2 b (nl b o e)).trans e1⟩
 ·have hj:j≠i:=λz=>by
   rw[z,List.getElem?_set_self' ]at e2
   cases w:σ[i]? with
   | none=>rw[w]at e2;cases e2
   | some u=>rw[w]at e2;cases e2
  rw[List.getElem?_set_ne (Ne.symm hj)]at e2;let⟨u',r',q⟩:=hl j y v' e1 e2 e3
  have yn:y≠n:=λz=>by
   subst z;exact hj ((List.getElem?_inj (List.getElem?_eq_some_iff.mp e1).1 hN).mp (e1.trans hi.symm))
  exists u',r';rcases q with ⟨q1,q2⟩|⟨q1,c,q2,q3⟩
  ·exact .inl ⟨q1,(if_neg yn).trans q2⟩
  ·let⟨o',q4,q5⟩:=q3;exact .inr ⟨q1,c,q2,o',(hs.2 c (M0 y c q2)).trans q4,q5⟩
 ·let⟨v,o',q4,q5⟩:=I.cell y c e;exact⟨v,o',(hs.2 c (M0 y c e)).trans q4,q5⟩
 ·let⟨q1,q2,q3,q4⟩:=I.pin p hp;exact⟨(hs.2 p.1 q3).trans q1,q2,q3,q4⟩
 ·refine (I.hok b u q).stay (λc w hc y=>(hs.2 c ?_).trans y) (λ_ y=>y) λ_ _ y=>y;rintro rfl;rcases hc with rfl|hc
  ·rw[I.free]at q;cases q
  ·rw[I.free]at hc;cases hc
end
end dX
namespace dX
open Spec Rows PySem.W L2
structure Hd where
 y:Str
 C:Addr
 b0:Stmt
 bs:List Stmt
 np:Pos
 hp:Pos
 nm:Option (Nat × Str)
 t:TS
abbrev Hd.st(h:Hd):ExceptHandler:=.ExceptHandler (⇑(.Name h.y h.np)) (h.nm.map (·.2)) (h.b0::h.bs) h.hp
structure Hd.Ok(X:Cx)(h:Hd):Prop where
 m:X.mg h.y=⇑↥h.C
 g:Gl X h.y
 d:(h.y == ("__debug__":Str))=false
 b:∀ a,CK (T9 X a) (h.b0::h.bs) h.t
 n:∀ q,h.nm=⇑q->X.N.Nodup/\X.N[q.1]?=⇑q.2/\X.env.scope.names.lookup q.2=⇑.local
def Hd.runs(h:Hd)(c:Value)(d:Option Addr)(D:Ends)(σ:L2.St)(H:Hp):Prop:=match h.nm with
 | none=>h.t D σ H
 | some q=>∃ dx,d=⇑dx/\∀ a,H a=none->h.t { nx:=fun σ' H'=>D.nx (σ'.set q.1 none) H',rt:=D.rt,bk:=λ_ _=>False,ct:=λ_ _=>False } (σ.set q.1 (⇑↥a)) (aM H a (Ov c a dx))
def Ow(K:PySem.W.Frag)(c:Value)(d:Option Addr):List Hd->Ends->L2.St->Hp->Prop
 | [],_,_,_=>False
 | h::r,D,σ,H=>(exmOne K c ↥h.C=⇑true/\h.runs c d D σ H)\/(exmOne K c ↥h.C=⇑false/\Ow K c d r D σ H)
section
variable {X:Cx} {ak:List (Addr × Obj)} {σ:L2.St} {H:Hp} {s:Shared} {a:Addr}
theorem RD{hs:List Hd}{D:Ends}{e:Value}{s':Shared}(hex:X.ex=[])(uM:X.stack=X.env::X.zn)(hf:X.env.frame=⇑X.env.locals)(ok:∀ h∈hs,h.Ok X)(I:Inv X ak σ H s)(h:Es X.prog X.w X.stack H s (λc d H2=>Ow X.K c d hs D σ H2) e s') :
  wpAny (model X.prog X.w) X.A (noteFrame e X.env) (λ_ s₂=>wpAny (model X.prog X.w) X.A (setFlight e none) (λ_ s₃=>wpAny (model X.prog X.w) X.A (handleBy e X.env (hs.map Hd.st)) (SP X ak D) X.xe s₃) X.xe s₂) X.xe s':=by
 let⟨a,T,c,a0,d,H2,rfl,⟨os,bare⟩,u,hok,F,q⟩:=h;have I1:Inv X ak σ H2 s':=I.EA (ch:=[]) os u hok bare (λb z=>absurd z (by simp));have G0:=zG F I1.stack
 have G0':iT (hideAll s'.heap (a::T::m8 X.stack)) (X.env::X.zn) a c a0 .none d s'.heap:=by
  have z:=G0;rw[uM]at z;rw[uM];exact z
 refine T8 (I.ok.frames.trans (by rw[uM])) hf G0' λh4 aeo k4=>E8 (s:={ s' with heap:=h4 }) aeo λh5 fl5 k5=>?_;have I5:Inv X ak σ H2 { s' with heap:=h5 }:=zH I os bare u hok F fl5 (k4.trans k5);let⟨ob,hob,hcl⟩:=fl5.there;have LT:Looks (model X.prog X.w) h5 (typeOf ↥a) c:=hcl ▸ (Looks.ld hob).andThen .now;clear G0 G0'
 induction hs with
 | nil=>exact False.elim q
 | cons h r ih =>
  have o:=ok h tL;refine wpAny_handleBy_cons (codeAny_handlers_test (mQ (X:=T9 X a) (inH I5 a) o.g o.m ?_ o.d)) (by intro z;cases z);rcases q with ⟨hx,q⟩|⟨hn,q⟩
  ·refine (exm_one (M:=model X.prog X.w) I5.oB LT hx).here ?_;unfold Hd.runs at q
   cases hnm:h.nm with
   | none =>
    rw[hnm]at q;refine codeAny_handlers_suite (E8 (s:={ s' with heap:=h5 }) fl5 λh6 ZE k6=>?_);have I6:Inv X ak σ H2 { s' with heap:=h6 }:=zH I os bare u hok F ZE ((k4.trans k5).trans k6);exact wpAny_mono (o.b a ak _ σ H2 D (inH I6 a) q) (λfl s2 z=>spH I6.ok z) λ_ _ z=>False.elim z
   | some w =>
    rw[hnm]at q;let⟨n1,n2,n3⟩:=o.n w hnm;let⟨dx,ed,q⟩:=q;refine codeAny_handlers_suite_as (E8 (s:={ s' with heap:=h5 }) fl5 λh6 ZE k6=>?_);have I6:Inv X ak σ H2 { s' with heap:=h6 }:=zH I os bare u hok F ZE ((k4.trans k5).trans k6);let⟨⟨_,_⟩,⟨na,_⟩,sa,_⟩:=id F;let⟨oe,vs,_,_,_,e1,e2,e3,_⟩:=ZE.tr;let⟨o1,f1,f2,f3⟩:=ZE.dc;rw[e1]at f1;cases f1
    have ob:h6.get? a=some { cls:=c,dict:=⇑dx,data:=.fields vs }:=by
     rw[e1,← e2.1,← ed,← f2,← e3];let⟨x1,x2,x3,x4⟩:=oe;cases (show x4=#[] from f3);rfl
    have s0:X.s₀.heap.get? a=none:=by
     cases z:X.s₀.heap.get? a with
     | none=>rfl
     | some y =>
      let⟨o',e'⟩:=I.zt.there a y z (by rw[hex];simp);rw[sa]at e';cases e'
    have I7:Inv X ak σ (aM H2 a (Ov c a dx)) { s' with heap:=h6 }:=LJ I6 s0 na ob rfl (λp hp z=>by
     have:=(I.pin p hp).1;rw[z,sa]at this
     cases this) ⟨⟨vs,ob⟩,⟨_,ob⟩,λ_ _ ⟨t,y⟩ k=>⟨t,k _ y⟩⟩
    refine qE (X:=X) I7 n1 n2 (.inl n3) (v:=↥a) rfl (λs8 I8=>?_) (.inr n3);refine wpAny_mono (o.b a ak _ _ _ _ (inH I8 a) (q a na)) (λfl s2 z=>?_) λ_ _ z=>False.elim z;show wpAny _ _ _ _ _ _;have z:=spH I6.ok z
    cases fl with
    | next =>
     let⟨σ',H',I9,y⟩:=z;exact J9 I9 n1 n2 n3 λs9 I9=>⟨P,I9,y⟩
    | brk=>let⟨σ',H',I9,y⟩:=z;exact y.elim
    | cont=>let⟨σ',H',I9,y⟩:=z;exact y.elim
    | ret v =>
     let⟨v',σ',H',I9,r,y⟩:=z;exact J9 I9 n1 n2 n3 λs9 I9=>⟨K,I9,r,y⟩
  ·refine (exm_one (M:=model X.prog X.w) I5.oB LT hn).here ?_;exact ih (λg hg=>ok g (oE _ hg)) q
abbrev TEx:=L2.St->Hp->VK->XK->Prop
def PEx(X:Cx)(e:Expr)(t:TEx):Prop:=∀ (ak:List (Addr × Obj)) (s:Shared) (σ:L2.St) (H:Hp) (Q:VK) (E:XK),Inv X ak σ H s->t σ H Q E->
 wpAny (model X.prog X.w) X.A (eval e X.env) (EP X ak σ Q) (λe s'=>∃ H1 s1,Inv X ak σ H1 s1/\Es X.prog X.w X.stack H1 s1 E e s') s
variable {x m:Str} {st:Stmt} {ps:List Str} {f C:Addr} {fd:FuncData} {j k:Nat} {sp:Sp} {e o:Expr} {es:List Expr} {ta:TE} {t:TA} {p jh pos:Pos} {pl:Sem Bool}
def VZ(C:Addr)(m:Str)(sp:Sp)(ta:TE)(t:TA):TEx:=fun σ H Q E=>ta σ H λx H1=>∃ a dx fs,x=↥a/\H1 a=⇑(.ins C dx fs)/\fs.lookup m=none/\t σ H1 λvs H2=>sp (x::vs) H2 Q E
theorem RE(ho:PE X.EI o ta)(c:JB X.K C)(hm:Hv X.K C m f)(hb:Binds X.K fd ps [])(G:aY X.prog X.w X.K X.mg X.zt (Es X.prog X.w) k f fd ps sp)(hr:gT k X.A)(ha:PA X.EI (e::es) t)
  (he:starEach (e::es) X.env=(false,eval e X.env)::starEach es X.env:=by rfl) (sN:(backTo pos (starEach es X.env)).any (·.1)=false:=by rfl)
  (ht:eval (.Call (.Attribute o m jh) (e::es) [] pos) X.env=(do
   let ov ← eval o X.env
   standAt jh.atName
   let (f,first) ← holding [ov] (getMethod ov m pl)
   callWith pos f first (backTo pos (starEach (e::es) X.env)) (backToKw pos (keywordEach [] X.env))):=by rfl):PEx X (.Call (.Attribute o m jh) (e::es) [] pos) (VZ C m sp ta t):=λak s σ H Q E I q =>
 Oo (pl:=pl) ho c hm hb G hr ha I q (λH1 s1 e s' I1 z=>⟨H1,s1,I1,z⟩) he sN ht
abbrev TSx:=Ends->L2.St->Hp->XK->Prop
abbrev XP(X:Cx)(ak:List (Addr × Obj))(σ:L2.St)(E:XK):Value->Shared->Prop:=λe s'=>∃ H1 s1,Inv X ak σ H1 s1/\Es X.prog X.w X.stack H1 s1 E e s'
def PSx(X:Cx)(st:Stmt)(t:TSx):Prop:=∀ (ak:List (Addr × Obj)) (s:Shared) (σ:L2.St) (H:Hp) (D:Ends) (E:XK),Inv X ak σ H s->t D σ H E->wpAny (model X.prog X.w) X.A (exec st X.env) (SP X ak D) (XP X ak σ E) s
variable {te:TEx} {i:Nat} {z:Str} {gS:Pos} {c:Expr} {tc:TT} {tx ty:TSx} {a b:Stmt} {hs:List Hd}
def ZF(i:Nat)(te:TEx):TSx:=λD σ H E=>te σ H (λv H1=>D.nx (σ.set i (⇑v)) H1) E
theorem RG(hN:X.N.Nodup)(hi:X.N[i]?=⇑z)(hz:Loc X.env.scope z)(he:PEx X e te)(hs:swapsWith e (⇑(.Name z gS)) pos.line X.env=pure false:=by rfl)(hf:X.fn z=true\/X.env.scope.names.lookup z=⇑.local:=by first|exact .inl rfl|exact .inr rfl|assumption) :
  PSx X (.Assign [.Name z gS] e pos) (ZF i te):=by
 intro ak s σ H D E I h;refine wpAny_Assign_Name (cI (he ak s σ H _ E I h) λv s1 ⟨y,H1,I1,r1,q1⟩=>?_) hs;exact qE I1 hN hi hz r1 (λs2 I2=>⟨_,H1,I2,q1⟩) hf
def Ug(K:PySem.W.Frag)(tx:TSx)(hs:List Hd):TS:=λD σ H=>tx D σ H (λc d H2=>Ow K c d hs D σ H2)
theorem RH{h0:Hd}(ha:PSx X a tx)(ok:∀ h∈h0::hs,h.Ok X)(uM:X.stack=X.env::X.zn:=by rfl)(hf:X.env.frame=⇑X.env.locals:=by rfl)(hex:X.ex=[]:=by rfl) :
  PS X (.Try [a] (h0.st::hs.map Hd.st) [] [] pos) (Ug X.K tx (h0::hs)):=by
 intro ak s σ H D I h;refine wpAny_Try_except (wpAny_execs_cons (wpAny_mono (ha ak s σ H D _ I h) (λf s1 z=>?_) λe s' ⟨H1,s1,I1,z⟩=>?_))
 ·cases f with
  | next=>exact wpAny_execs_nil (wpAny_execs_nil z)
  | brk=>exact z
  | cont=>exact z
  | ret u=>exact z
 ·exact RD hex uM hf ok I1 z
def X4(X:Cx)(hl:List ExceptHandler)(hs:List Hd):Prop:=hl=hs.map Hd.st/\∀ h∈hs,h.Ok X
theorem RI:X4 X [] []:=⟨rfl,λ_ z=>by cases z⟩
theorem Ox{y:Str}{b0:Stmt}{bs:List Stmt}{np hp:Pos}{tb:TS}{hl:List ExceptHandler}(hm:X.mg y=⇑↥Cy)(hb:∀ a,CK (T9 X a) (b0::bs) tb)(r:X4 X hl hs)(g:Gl X y:=by rfl)(d:(y == ("__debug__":Str))=false:=by decide) :
  X4 X (.ExceptHandler (⇑(.Name y np)) none (b0::bs) hp::hl) (⟨y,Cy,b0,bs,np,hp,none,tb⟩::hs):=by
 refine⟨by rw[r.1];rfl,λh m=>?_⟩;rcases List.mem_cons.mp m with z|z
 ·rw[z];exact⟨hm,g,d,hb,λ_ z=>by cases z⟩
 ·exact r.2 h z
theorem V0{i:Nat}{n y:Str}{b0:Stmt}{bs:List Stmt}{np hp:Pos}{tb:TS}{hl:List ExceptHandler}(hN:X.N.Nodup)(hm:X.mg y=⇑↥Cy)(hb:∀ a,CK (T9 X a) (b0::bs) tb)(r:X4 X hl hs)(hi:X.N[i]?=⇑n:=by rfl)(hn:X.env.scope.names.lookup n=⇑.local:=by rfl)(g:Gl X y:=by rfl)(d:(y == ("__debug__":Str))=false:=by decide) :
  X4 X (.ExceptHandler (⇑(.Name y np)) (⇑n) (b0::bs) hp::hl) (⟨y,Cy,b0,bs,np,hp,⇑(i,n),tb⟩::hs):=by
 refine⟨by rw[r.1];rfl,λh m=>?_⟩;rcases List.mem_cons.mp m with z|z
 ·rw[z];exact⟨hm,g,d,hb,λ_ z=>by cases z;exact⟨hN,hi,hn⟩⟩
 ·exact r.2 h z
def RJ{h0:ExceptHandler}{hl:List ExceptHandler}(ha:PSx X a tx)(r:X4 X (h0::hl) hs)(uM:X.stack=X.env::X.zn:=by rfl)(hf:X.env.frame=⇑X.env.locals:=by rfl)(hex:X.ex=[]:=by rfl):PS X (.Try [a] (h0::hl) [] [] pos) (Ug X.K tx hs):=by
 cases hs with
 | nil=>cases r.1
 | cons g gs =>
  have e:=r.1;rw[jy]at e;rw[e];exact RH ha r.2 uM hf hex
theorem vj{y:Str}(d:gG.bX X.K X.mg x st ps f fd)(hm:X.mg y=⇑↥f)(G:aY X.prog X.w X.K X.mg X.zt cP k f fd ps sp)(hr:gT j X.A)
  (ha:PA X (e::es) t) (Q0:k<=j:=by first|decide|lia) (hg:Gl X y:=by rfl) (AX:(y == ("__debug__":Str))=false:=by decide) (he:starEach (e::es) X.env=(false,eval e X.env)::starEach es X.env:=by rfl)
  (sN:(backTo pos (starEach es X.env)).any (·.1)=false:=by rfl):PE X (.Call (.Name y p) (e::es) [] pos) (EN sp [] E0 t) :=
 CQ G (hr.mono Q0) hg hm d.F.kp d.b .nil cj ha AX he sN
end
end dX
namespace gh
open Spec Rows PySem.W L2 cO dX
section
variable {prog:Program} {w:World} {A:Around} {E:Value->Shared->Prop} {h:Heap} {g:Array GenState} {d:Drawn} {t:Nat} {os:OsState}
variable {nm q:Str} {C N:Addr} {bs bm Er:List Value} {hdct:Bool} {sn:List Str} {sub:List Value} {ab:Bool} {col:Option Bool} {dd:Option Addr} {k0 k1 k2 k3 k5:Option Value} {B jq uo:String}
abbrev zS(C t:Addr):Obj:={ cls:=↥C,data:=.fields #[↥t,.none,.none,.none,.bool false,.none] }
abbrev ZG(vs:List Value):Obj:={ cls:=.type "tuple",data:=.seq vs.toArray }
theorem yt(F:ExcBaseFacts B jq uo Er)(T:OwnTail h Er bm){mN:Str->Option Value}{vs:List Value}{fI:Addr}{oI:Obj}{Q:PySem.Fin->Shared->Prop}
  (hC:h.get? C=⇑(excClassObj nm q C N bs bm hdct sn sub ab col dd k0 k1 k2 k3 k5 jq)) (hn:h.Ns N mN) (hi:mN "__init__"=⇑↥fI) (hfI:h.get? fI=⇑oI) (hfc:oI.cls=.type "function")
  (hq:∀ h' e,Heap.MadeExcOf h h' e ↥C vs->wpAny (model prog w) A (call ↥fI (.ref e::vs)) (λr s'=>r=.none/\Q (.done (.ret ↥e)) s') E ⟨h',g,d,t,os⟩) (hz:↑vs<=sizeLine) :
  wpAny (model prog w) A (Builtin.«type.__call__» ⟨↥C::vs,[]⟩) Q E ⟨h,g,d,t,os⟩:=by
 repeat (first|with_reducible refine wpAny_loadPart_at hC ?_|with_reducible refine wpAny_madeBy_exc hC ?_|wp_step)
 refine codeAny_call_builtin_code (Code.quiet_builtin _ F.quiet) (wpAny_check_new_subT F T hC ?_);refine codeAny_exc_new_subT F T hC ?_ hz;show wpAny _ _ _ _ _ _;have kp:∀ b o,h.get? b=⇑o->((h.push (ZG vs)).push (zS C h.objs.size)).get? b=⇑o:=λb o e=>Heap.get?_push_of_some _ (Heap.get?_push_of_some _ e);have c1:=kp _ _ hC;have f1:=kp _ _ hfI;have n1:=hn.keeps kp;have x1:((h.push (ZG vs)).push (zS C h.objs.size)).get? (h.objs.size+1)=⇑(zS C h.objs.size):=by heap_get
 have me:(Value.ref C::bm).contains ↥C=true:=by simp
 unfold isInstance
 repeat (first|with_reducible refine wpAny_loadPart_at x1 ?_|(with_reducible refine wpAny_isSubtype_exc c1 ?_;rw[me])|wp_step)
 show wpAny _ _ (typeLookup ↥C _) _ _ _;refine wpAny_typeLookup_tail c1 n1 (T.keeps kp) F.mroIs F.init.lookup ?_;rw[hi];refine wpAny_holding (wpAny_bind ?_);unfold bindSpecial;refine wpAny_bind (wpAny_typeOf (T:="function") ⟨_,f1,hfc⟩ ?_);rw[if_pos (by decide)];refine wpAny_pure (wpAny_bind (wpAny_mono (hq _ (h.objs.size+1) ⟨kp,Heap.get?_none_of_le (Nat.le_succ _),h.objs.size,x1,Heap.get?_none_of_le (fT _),Heap.get?_push_of_some _ (Heap.get?_push_at rfl rfl)⟩) (λr s' hr=>?_) λ_ _ x=>x));let⟨rfl,hQ⟩:=hr
 wp_walk
 exact hQ
theorem Ip(F:ExcBaseFacts B jq uo Er)(T:OwnTail h Er bm){mN:Str->Option Value}{vs:List Value}{fI:Addr}{oI:Obj}{Q:Value->Shared->Prop}
  (hC:h.get? C=⇑(excClassObj nm q C N bs bm hdct sn sub ab col dd k0 k1 k2 k3 k5 jq)) (hn:h.Ns N mN) (hi:mN "__init__"=⇑↥fI) (hfI:h.get? fI=⇑oI) (hfc:oI.cls=.type "function")
  (hq:∀ h' e,Heap.MadeExcOf h h' e ↥C vs->wpAny (model prog w) (A.under (.builtin "type.__call__" ⟨↥C::vs,[]⟩)) (call ↥fI (.ref e::vs)) (λr s'=>r=.none/\Q ↥e s') E ⟨h',g,d,t,os⟩) (hz:↑vs<=sizeLine) :
  wpAny (model prog w) A (call ↥C vs) Q E ⟨h,g,d,t,os⟩:=by
 have f1:=tc_lookup;have f2:=tc_bind ↥C;have hT:(⟨h,g,d,t,os⟩:Shared).TypeIs ↥C "type":=⟨_,hC,rfl⟩;refine wpAny_call (codeAny_of_tree ?_);show wpAny _ _ (callAny ↥C _) _ _ _
 repeat (any_goals (first|assumption|with_reducible refine wpAny_loadPart_at hC ?_|wp_step))
 exists rfl;exact codeAny_call_builtin_at (Code.quiet_builtin _ nofun) entry_typeCall (wpAny_check_type_call_sub hC (yt F T hC hn hi hfI hfc (λh' e hm=>hq h' e hm) hz))
end
end gh
namespace gh
open Spec Rows PySem.W L2 cO dX
open Builtin Builtin.ObjectAttr
section
variable {bm:List Value} {B sa ZH:String}
theorem zT{p:List Value->Prop}(h0:p bm)(hs:∀ c r,p r->p (.ref c::r)):∀ {l:List Value},EV bm l=true->p l
 | [],e=>by rw[show ([]:List Value)=bm from eq_of_beq e];exact h0
 | a::r,e=>by
  cases a with
  | ref c=>exact hs c r (zT h0 hs (l:=r) e)
  | _=>rw[show _=bm from eq_of_beq e];exact h0
theorem Fx(SF:StoreFacts B bm sa ZH)(self:Value){l:List Value}(e:EV bm l=true):refuseLoop self "__setattr__" l=pure () :=
 zT (p:=λl=>refuseLoop self "__setattr__" l=pure ()) (SF.passes self) (λc r h=>by rw[refuseLoop_ref];exact h) e
theorem vm{v:Value}(hv:bm.contains v=true){l:List Value}(e:EV bm l=true):l.contains v=true :=
 zT (p:=λl=>l.contains v=true) hv (λc r h=>by rw[List.contains_cons,h,Bool.or_true]) e
end
section
variable {prog:Program} {w:World} {A:Around} {K:Frag} {C x:Addr} {E:Value->Shared->Prop} {s:Shared} {vs:Array Value} {name:Str} {v:Value}
theorem LK{tk:Tok}{Q:PySem.Fin->Shared->Prop}(X:K.In s.heap)(hx:s.heap.get? x=some { cls:=↥C,data:=.fields vs })(hb:bears K C=true)(hn:findIn K ↥C name=⇑none)
  (hq:∀ h' X5 dx,s.heap.get? dx=none->dx≠x->h'.get? x=some { cls:=↥C,dict:=⇑dx,data:=.fields vs }->h'.Ns1 dx (λy=>if y=name then some v else none)->(∀ b u,b≠x->s.heap.get? b=⇑u->h'.get? b=⇑u)->Q (.done (.ret .none)) { s with heap:=h',toks:=X5 }) :
  wpAny (model prog w) A (Builtin.«object.__setattr__» ⟨[↥x,.str name tk,v],[]⟩) Q E s:=by
 let⟨cd,hc,he⟩:=any_some hb;rw[Bool.and_eq_true]at he;let⟨ho,hd⟩:=he;have I:InstAt s.heap x { cls:=↥C,data:=.fields vs } C none:=⟨hx,V,trivial⟩;have hm:Looks (model prog w) s.heap (mroOf ↥C) cd.mro:=(looks_clsIn X hc).andThen .now;rw[osa_eq,refuse_eq];refine wpAny_bind (wpAny_bind (I.type.here (wpAny_bind (hm.here ?_))));rw[Fx PySem.F.store_ValueError _ ho];refine wpAny_pure (wpAny_bind (I.type.here (wpAny_bind ((looks_findIn X hn).here (wpAny_bind (wpAny_pure ?_))))));have x1:(s.heap.push { cls:=.type "dict",data:=.dict #[] }).get? x=some { cls:=↥C,data:=.fields vs }:=Heap.get?_push_of_some _ hx;have xs:x≠s.heap.objs.size:=jM (Heap.lt_size hx);refine wpAny_bind (wpAny_pure (wpAny_bind (wpAny_bind (wpAny_loadPart hx (wpAny_bind ((looks_clsIn X hc).here ?_))))));rw[hd];rw[if_neg (by decide)];show wpAny _ _ (alloc { cls:=.type "dict",data:=.dict #[] } >>= λd=>update x (λo=>{ cls:=o.cls,dict:=⇑d,data:=o.data,slots:=o.slots }) >>= λ_=>dictMade ↥C x d) _ _ _;refine wpAny_bind (wpAny_alloc' ?_);refine wpAny_bind (wpAny_update' x1 ?_);refine wpAny_pure ?_;have gd:((s.heap.push { cls:=.type "dict",data:=.dict #[] }).update x λo=>{ cls:=o.cls,dict:=⇑s.heap.objs.size,data:=o.data,slots:=o.slots }).get? s.heap.objs.size=some { cls:=.type "dict",data:=.dict #[] } := (Heap.get?_update_ne _ _ _ _ xs.symm).trans (Heap.get?_push_at rfl rfl);have nd:((s.heap.push { cls:=.type "dict",data:=.dict #[] }).update x λo=>{ cls:=o.cls,dict:=⇑s.heap.objs.size,data:=o.data,slots:=o.slots }).Ns s.heap.objs.size (λ_=>none) := ⟨_,#[],_,gd,rfl,λe he=>absurd he (by simp),λ_=>rfl⟩;show wpAny _ _ (storeInDict s.heap.objs.size (.str name tk) name v) _ _ _;unfold storeInDict newKeyGuard;refine wpAny_bind (wpAny_pure (wpAny_bind (wpAny_nsSet1 (Heap.Ns1.of_empty nd) λh' TR hs=>?_)));let⟨oD,esD,epD,hoD,hdD,hcD⟩:=TR.count (Within.cons name v Within.nil);refine wpAny_bind (wpAny_lookBehind hoD (by rw[hdD];exact pastItsLine_dict (jv hcD (by rw[kX,qp,sizeLine_eq];lia))) ?_);refine wpAny_pure (hq h' _ s.heap.objs.size (Heap.get?_none_of_le (fT _)) xs.symm ?_ ?_ λb u hb hu=>?_)
 ·exact (hs.2 x xs).trans (Heap.get?_update_self _ x1 rfl)
 ·exact TR
 ·exact (hs.2 b (jM (Heap.lt_size hu))).trans ((Heap.get?_update_ne _ _ _ _ hb).trans (Heap.get?_push_of_some _ hu))
theorem RK{Q:Unit->Shared->Prop}(X:K.In s.heap)(hx:s.heap.get? x=some { cls:=↥C,data:=.fields vs })(hb:bears K C=true)(hn:findIn K ↥C name=⇑none)(hsa:findIn K ↥C "__setattr__"=⇑(⇑(.builtin "object.__setattr__")))
  (hq:∀ h' X5 dx,s.heap.get? dx=none->dx≠x->h'.get? x=some { cls:=↥C,dict:=⇑dx,data:=.fields vs }->h'.Ns1 dx (λy=>if y=name then some v else none)->(∀ b u,b≠x->s.heap.get? b=⇑u->h'.get? b=⇑u)->Q () { s with heap:=h',toks:=X5 }) :
  wpAny (model prog w) A (setAttr ↥x name v) Q E s:=by
 let⟨cd,hc,he⟩:=any_some hb;rw[Bool.and_eq_true]at he;have I:InstAt s.heap x { cls:=↥C,data:=.fields vs } C none:=⟨hx,V,trivial⟩;have SF:=PySem.F.store_ValueError
 have sub:Looks (model prog w) s.heap (isInstance ↥x (.type "object")) true:=I.type.andThen (looks_mroIn X (by
  unfold mroIn;rw[hc,Option.bind_some,vm (by decide) he.1];rw[if_neg];intro z;have y:=vm (v:=.type "object") (by decide) he.1;rw[List.isEmpty_iff.mp z]at y
  cases y))
 unfold setAttr callSpecial? specialOf;refine wpAny_bind (wpAny_mkText (wpAny_bind (wpAny_bind (wpAny_bind (Looks.here (s:={ s with toks:=s.toks+1 }) I.type (Looks.here (s:={ s with toks:=s.toks+1 }) (looks_findIn X hsa) ?_))))));refine wpAny_holding (wpAny_bind (wpAny_of_eq (SF.slot.bind _) (wpAny_bind (wpAny_call ?_))));refine codeAny_call_builtin SF.slot.plain SF.entry (@check_slot (model prog w) _ _ { s with toks:=s.toks+1 } "object.__setattr__" "object" "__setattr__" ↥x [.str name s.toks,v] [] _ SF.kind SF.split sub (SF.args ↥x (.str name s.toks) v) ?_);exact LK (s:={ s with toks:=s.toks+1 }) X hx hb hn λh' X5 dx a1 a2 a3 a4 a5=>wpAny_pure (wpAny_pure (hq h' X5 dx a1 a2 a3 a4 a5))
end
end gh
namespace gh
open Spec Rows PySem.W L2 cO dX
open Builtin Builtin.ObjectAttr
section
variable {prog:Program} {w:World} {A:Around} {K:Frag} {C x dx:Addr} {E:Value->Shared->Prop} {s:Shared} {vs:Array Value} {name:Str} {v:Addr} {mA:Str->Option Value}
theorem RL{KY:Bool}{Q:Value->Shared->Prop}(X:K.In s.heap)(hx:s.heap.get? x=some { cls:=↥C,dict:=⇑dx,data:=.fields vs })(hb:bears K C=true)(hn:findIn K ↥C name=⇑none)
  (hga:findIn K ↥C "__getattribute__"=⇑(⇑(.builtin "BaseException.__getattribute__"))) (hgt:findIn K ↥C "__getattr__"=⇑none) (hd:s.heap.Ns1 dx mA) (hv:mA name=⇑↥v) (hq:Q ↥v { s with toks:=s.toks+1 }) :
  wpAny (model prog w) A (getAttr ↥x name KY) Q E s:=by
 let⟨hh,g,d,t,os⟩:=s;let⟨cd,hc,he⟩:=any_some hb;rw[Bool.and_eq_true]at he;have T:Looks (model prog w) hh (typeOf ↥x) ↥C:=(Looks.ld hx).andThen .now;have L1:=looks_findIn (M:=model prog w) X hga;have L2:=looks_findIn (M:=model prog w) X hgt;have L3:=looks_findIn (M:=model prog w) X hn;have L4:Looks (model prog w) hh (hookBefore ↥C) none:=L2;have L5:Looks (model prog w) hh (classData C) cd:=looks_clsIn X hc
 have sub:Looks (model prog w) hh (isInstance ↥x (.type "BaseException")) true:=T.andThen (looks_mroIn X (by
  unfold mroIn;rw[hc,Option.bind_some,vm (by decide) he.1];rw[if_neg];intro z;have y:=vm (v:=.type "object") (by decide) he.1;rw[List.isEmpty_iff.mp z]at y
  cases y))
 have FB:=PySem.F.excAttr_ValueError;unfold getAttr;refine wpAny_bind (wpAny_mkText ?_);show wpAny _ _ (getAttrBy ↥x (.str name t) true KY) _ _ ⟨hh,g,d,t+1,os⟩;unfold getAttrBy;refine wpAny_holding (wpAny_bind (Looks.at T (wpAny_bind (Looks.at L1 ?_))));show wpAny _ _ (getAttrByItsOwn ↥x (.str name t) ↥C (.builtin "BaseException.__getattribute__") true KY) _ _ _;unfold getAttrByItsOwn;refine wpAny_bind (Looks.at L4 (wpAny_bind (wpAny_attempt (wpAny_holding ?_))));unfold callGetattribute
 rw[if_neg (by cases KY <;> decide)]
 unfold boundAndCalled;refine wpAny_bind (wpAny_of_eq (FB.ga.bind _) (wpAny_call ?_));refine codeAny_call_builtin FB.ga.plain PySem.F.entry_bexc_ga (@check_slot (model prog w) _ _ ⟨hh,g,d,t+1,os⟩ "BaseException.__getattribute__" "BaseException" "__getattribute__" ↥x [.str name t] [] _ nofun nofun sub (PySem.F.args_bexc_ga ↥x (.str name t)) ?_);have hD:=he.2;unfold Builtin.«object.__getattribute__»
 repeat lk
 rw[hD,if_neg (by decide)];refine wpAny_pure ?_;show wpAny _ _ (nsGet dx name) _ _ _;refine wpAny_nsGet hd.ns ?_;rw[hv];exact wpAny_bind (wpAny_rule (wpAny_pure (wpAny_pure (wpAny_pure hq))))
end
end gh
namespace gh
open Spec Rows PySem.W L2 cO dX
section
variable {prog:Program} {w:World} {A:Around} {E:Value->Shared->Prop} {h:Heap} {g:Array GenState} {d:Drawn} {t:Nat} {os:OsState}
variable {nm q:Str} {C N:Addr} {bs bm Er:List Value} {hdct:Bool} {sn:List Str} {sub:List Value} {ab:Bool} {col:Option Bool} {dd:Option Addr} {k0 k1 k2 k3 k5:Option Value} {B jq uo:String}
theorem LL(F:ExcBaseFacts B jq uo Er)(T:OwnTail h Er bm){vs:List Value}{e t0:Addr}{Q:Value->Shared->Prop}
  (hC:h.get? C=⇑(excClassObj nm q C N bs bm hdct sn sub ab col dd k0 k1 k2 k3 k5 jq)) (he:h.get? e=⇑(zS C t0)) (hz:↑vs<=sizeLine)
  (hq:∀ h' t1,h'.get? e=⇑(zS C t1)->(∀ b o,b≠e->h.get? b=⇑o->h'.get? b=⇑o)->Q .none ⟨h',g,d,t,os⟩) :
  wpAny (model prog w) A (call (.builtin uo) (.ref e::vs)) Q E ⟨h,g,d,t,os⟩:=by
 refine wpAny_call (codeAny_call_builtin F.init.plain F.initEntry (wpAny_check_init_subT F T hC he rfl ?_))
 wp_walk
 refine hq _ h.objs.size ?_ λb o hb ho=>?_
 ·rw[Heap.get?_update_self _ (Heap.get?_push_of_some _ he) rfl];rfl
 ·rw[Heap.get?_update_other _ _ hb.symm];exact Heap.get?_push_of_some _ ho
end
def RM{K:Frag}{h:Heap}{N:Addr}{mg:Str->Option Value}{n:Str}{v:Value}(X:K.In h)(G:h.Ns N mg)(e:nsIn K N n=⇑(⇑v)):mg n=⇑v:=by
 let⟨o,es,ep,ho,hd,_,hf⟩:=G;unfold nsIn at e;split at e
 ·rename_i c d rK n' sl q;have z:=X _ _ q;rw[ho]at z;cases z;cases hd;split at e
  ·rename_i y he;rw[← hf];unfold nsFind findBy;rw[← Array.find?_toList,he];cases e;rfl
  ·split at e <;> cases e
 ·cases e
theorem zU{K:Frag}{h:Heap}{C:Addr}{Er:List Value}{jq:String}(I:K.In h)(q:tS K C Er jq fI=true) :
  ∃ bm N nm q bs hdct sn sub ab col dd k0 k1 k2 k3 k5 mN,h.get? C=⇑(excClassObj nm q C N bs bm hdct sn sub ab col dd k0 k1 k2 k3 k5 jq)/\h.Ns N mN/\mN "__init__"=⇑↥fI/\OwnTail h Er bm:=by
 unfold tS at q;split at q
 case h_2=>cases q
 rename_i dd cd sl ho;split at q
 case h_2=>cases q
 rename_i c1 bm k0 k1 k2 k3 n k5 hm hs;simp only[Bool.and_eq_true,beq_iff_eq,Bool.not_eq_true']at q;let⟨⟨⟨⟨⟨e1,e2⟩,VH⟩,ht⟩,Nl⟩,hni⟩:=q;cases e1;cases e2
 cases cd with
 | mk nm bs mro ns qn hd sn sub ab col del =>
  cases hm;cases VH
  cases sl with
  | mk l =>
   have Zu:l=[k0,k1,k2,k3,⇑(.builtin jq),k5]:=hs;subst Zu;exact⟨bm,ns,nm,qn,bs,hd,sn,sub,ab,col,dd,k0,k1,k2,k3,k5,_,I _ _ ho,.of_isNs (isNs_of_in I Nl),RM I (.of_isNs (isNs_of_in I Nl)) hni,tail_of_in I ht⟩
end gh
namespace gh
open Spec Rows PySem.W L2 cO dX
open Builtin Builtin.ObjectAttr
section
variable {prog:Program} {w:World} {A:Around} {K:Frag} {C x:Addr} {E:Value->Shared->Prop} {s:Shared} {o:Obj}
structure ZI(K:Frag)(C:Addr):Prop where
 b:bears K C=true
 ga:findIn K ↥C "__getattribute__"=⇑(⇑(.builtin "BaseException.__getattribute__"))
 gt:findIn K ↥C "__getattr__"=⇑none
 cl:findIn K ↥C "__class__"=⇑(⇑(.builtin "object.__class__"))
 gs:specialIn K (.builtin "object.__class__") "__get__"=⇑(⇑(.builtin "getset_descriptor.__get__"))
 tk:takesIn K (.builtin "object.__class__")=⇑true
end
end gh
namespace gh
open Spec Rows PySem.W L2 cO dX
def Dn(C e:Addr):HO:=.ext λh=>∃ t,h.get? e=⇑(zS C t)
abbrev ZJ(C dx t:Addr):Obj:={ cls:=↥C,dict:=⇑dx,data:=.fields #[↥t,.none,.none,.none,.bool false,.none] }
def Iq(C e dx:Addr):HO:=.ext λh=>∃ t,h.get? e=⇑(ZJ C dx t)
section
variable {P:Program} {w:World} {H:Hp} {h h':Heap} {a e dx C:Addr} {o o':HO} {fs:List Addr}
theorem Ka{t:Addr}(z:h.get? e=⇑(zS C t)):cV P w H h e (Dn C e):=⟨⟨t,z⟩,⟨_,z⟩,λ_ _ ⟨t,y⟩ k=>⟨t,k _ y⟩⟩
theorem RN{t:Addr}(z:h.get? e=⇑(ZJ C dx t)):cV P w H h e (Iq C e dx):=⟨⟨t,z⟩,⟨_,z⟩,λ_ _ ⟨t,y⟩ k=>⟨t,k _ y⟩⟩
theorem Wa(k:∀ b u,h.get? b=⇑u->h'.get? b=⇑u)(hp:h.get? a=none)(hn:H a=none):Un fs [] H (aM H a o) h h' where
 keep:=λb u q _ _ _=>k b u q
 slot:=λb u q _ _ _=>⟨u.slots,k b u q⟩
 free:=λb u q n _=>by rw[aG (λz=>by rw[z,hp]at q;cases q)];exact n
 there:=λb u q _=>⟨u,k b u q⟩
 tups:=λb xs q=>by rw[aG (az q hn)];exact q
 tM:=λb u xs q=>by rw[aG (az q hn)];exact q
 uL:=λb ps q=>⟨#[],by rw[aG (az q hn),q];simp⟩
theorem RO(x:oH P w H h)(k:∀ b u,h.get? b=⇑u->h'.get? b=⇑u)(hp:h.get? a=none)(new:cV P w (aM H a o) h' a o):oH P w (aM H a o) h':=λb u e=>by
 have hn:=pM x hp;by_cases hb:b=a
 ·subst hb;rw[ah]at e;cases e;exact new
 ·rw[aG hb]at e;exact (x b u e).stay (λc v _ q=>k c v q) (λc q=>by rw[aG (az q hn)];exact q) λc xs q=>by rw[aG (az q hn)];exact q
end
section
variable {X:Cx} {ak:List (Addr × Obj)} {σ:L2.St} {H:Hp} {s:Shared} {h':Heap} {a e dx C:Addr} {o:HO}
theorem RP{t':Nat}(I:Inv X ak σ H s)(k:∀ b u,s.heap.get? b=⇑u->h'.get? b=⇑u)(hp:s.heap.get? a=none)(new:cV X.prog X.w (aM H a o) h' a o):Inv X ak σ (aM H a o) { s with heap:=h',toks:=t' } :=
 I.un (Wa k hp (pM I.hok hp)) (RO I.hok k hp new)
theorem RQ{t':Nat}{φ:Heap->Prop}(I:Inv X ak σ H s)(he:H e=⇑(.ext φ))(k:∀ b u,b≠e->s.heap.get? b=⇑u->h'.get? b=⇑u)(Qh:∃ u,h'.get? e=⇑u)(new:cV X.prog X.w (aM H e o) h' e o):Inv X ak σ (aM H e o) { s with heap:=h',toks:=t' } :=
 I.write (x:=e) (e:=e) (by rw[he];trivial) (.inl rfl) k Qh new
end
end gh
namespace gh
open Spec Rows PySem.W L2 cO dX
end gh
namespace gh
open Spec Rows PySem.W L2 cO dX
section
variable {X:Cx} {ak:List (Addr × Obj)} {σ:L2.St} {H:Hp} {s:Shared} {h':Heap} {a dx C:Addr} {o1 o2:HO}
theorem RS{t':Nat}{φ:Heap->Prop}(I:Inv X ak σ H s)(he:H a=⇑(.ext φ))(hd:s.heap.get? dx=none)(k:∀ b u,b≠a->s.heap.get? b=⇑u->h'.get? b=⇑u)(Qh:∃ u,h'.get? a=⇑u)
  (n1:cV X.prog X.w (aM (aM H dx o2) a o1) h' a o1) (n2:cV X.prog X.w (aM (aM H dx o2) a o1) h' dx o2):Inv X ak σ (aM (aM H dx o2) a o1) { s with heap:=h',toks:=t' }:=by
 have hn:=pM I.hok hd;have nd:dx≠a:=λz=>by rw[z,he]at hn;cases hn
 have ne:∀ {b:Addr} {u:HO},H b=⇑u->(∀ φ,u≠.ext φ)->b≠a/\b≠dx:=λ{b u} q z=>⟨λy=>by rw[y,he]at q;cases q;exact z _ rfl,az q hn⟩;have up:∀ {b:Addr} {u:HO},H b=⇑u->(∀ φ,u≠.ext φ)->aM (aM H dx o2) a o1 b=⇑u:=λq z=>by rw[aG (ne q z).1,aG (ne q z).2];exact q
 refine I.un ⟨λb u q n _ _=>k b u (λz=>by rw[z,he]at n;cases n) q,λb u q n _ _=>⟨u.slots,k b u (λz=>by rw[z,he]at n;cases n) q⟩,λb u q n _=>?_,λb u q _=>?_,λb xs q=>up q (λ_ z=>by cases z),λb o u q=>up q (λ_ z=>by cases z),λb ps q=>⟨#[],by rw[up q (λ_ z=>by cases z)];simp⟩⟩ λb u q=>?_
 ·rw[aG (λz=>by rw[z,he]at n;cases n),aG (λz=>by rw[z,hd]at q;cases q)];exact n
 ·by_cases z:b=a
  ·rw[z];exact Qh
  ·exact⟨u,k b u z q⟩
 ·by_cases ba:b=a
  ·subst ba;rw[ah]at q;cases q;exact n1
  rw[aG ba]at q;by_cases bd:b=dx
  ·subst bd;rw[ah]at q;cases q;exact n2
  rw[aG bd]at q;refine (I.hok b u q).stay (λc v hc y=>k c v ?_ y) (λc y=>up y (λ_ z=>by cases z)) λc xs y=>up y (λ_ z=>by cases z);rcases hc with rfl|hc
  ·exact ba
  ·exact (ne hc (λ_ z=>by cases z)).1
end
section
variable {X:Cx} {x f:Str} {C:Addr} {o value:Expr} {ta tv:TE} {pos gS:Pos}
def aet(K:Frag)(ta tv:TE)(f:Str):TS:=λD σ H=>tv σ H λy H1=>ta σ H1 λx H2=>∃ a C,x=↥a/\H2 a=⇑(Dn C a)/\bears K C=true/\findIn K ↥C f=⇑none/\findIn K ↥C "__setattr__"=⇑(⇑(.builtin "object.__setattr__"))/\
 ∀ dx,H2 dx=none->D.nx σ (aM (aM H2 dx (.xd [(f,y)])) a (Iq C a dx))
def Wb(ha:PE X o ta)(hv:PE X value tv)(hs:swapsWith value (⇑(.Attribute o f gS)) pos.line X.env=pure false):PS X (.Assign [.Attribute o f gS] value pos) (aet X.K ta tv f):=by
 intro ak s σ H D I h;refine plainObj_wpAny_Assign_Attribute (cI (hv ak s σ H _ I h) λu s1 ⟨y,H1,I1,ry,q⟩=>cI (ha ak s1 σ H1 _ I1 q) λov s2 ⟨x,H2,I2,rx,a,C,ex,ea,hb,hn,hsa,q2⟩=>?_) hs;subst ex;obtain rfl:ov=Value.ref a:=rx;let⟨⟨t,z⟩,_⟩:=(show cV X.prog X.w H2 s2.heap a (Dn C a) from I2.hok a _ ea);refine RK I2.oB z hb hn hsa λh' X5 dx d1 d2 d3 d4 d5=>⟨σ,_,RS (o2:=.xd [(f,y)]) I2 ea d1 d5 ⟨_,d3⟩ (RN d3) ⟨_,d4,λn=>?_⟩,q2 dx (pM I2.hok d1)⟩;by_cases c:n=f
 ·subst c;simp only[List.lookup,beq_self_eq_true,if_true];exact ry
 ·have:(n == f)=false:=by simpa using c
  simp only[List.lookup,this,if_neg c];trivial
end
end gh
namespace gh
open Spec Rows PySem.W L2 cO dX
section
variable {X:Cx} {CX:K9} {k:Nat} {x y:Str} {C CI fa:Addr} {fd:FuncData} {ps:List Str} {sp:Sp} {E:XK} {uP:List V} {ds:List Value} {e:Expr} {es:List Expr} {t:TA} {np ap iU pos:Pos}
def Wc(C:Addr)(sp:Sp)(uP:List V)(E:XK)(t:TA):TE:=fun σ H Q=>t σ H λvs H1=>↑vs<=sizeLine/\∀ a,H1 a=none->sp (.ref a::(vs++uP)) (aM H1 a (Dn C a)) (λv H2=>v=.fV/\Q ↥a H2) E
theorem Oz(FB:ExcBaseFacts "ValueError" "ValueError.__new__" "ValueError.__init__" QS)(hx:tS X.K C QS "ValueError.__new__" fa=true)(hf:typeIn X.K ↥fa=⇑(.type "function"))(hm:X.mg x=⇑↥C)(kp:keepIn X.K ↥C=true)
  (F:aY X.prog X.w X.K X.mg X.zt CX k fa fd ps sp) (hr:gT (k+1) X.A) (hb:Binds X.K fd ps ds) (hd:b8 uP ds) (hp:jz CX X E) (ha:PA X (e::es) t)
  (hg:Gl X x:=by rfl) (AX:(x == ("__debug__":Str))=false:=by decide) (he:starEach (e::es) X.env=(false,eval e X.env)::starEach es X.env:=by rfl) (sN:(backTo iU (starEach es X.env)).any (·.1)=false:=by rfl) :
  PE X (.Call (.Name x np) (e::es) [] iU) (Wc C sp uP E t):=by
 intro ak s σ H Q I h;refine wpAny_Call_Name_kw (mQ I hg hm ?_ AX);refine callWith_K (h₀:=X.zt) I.ok.mod.UP kp (cI (ha iU ak s σ H _ I h) λus s1 ⟨vs,H1,I1,r,q1,q2⟩=>⟨I1.oB,?_⟩) he sN;let⟨tl,Nd,c1,c2,c3,c4,c5,c6,c7,c8,c9,d0,d1,d2,d3,d5,mN,hC,hN,hi,T⟩:=zU I1.oB hx;let⟨oI,ho,hc⟩:=Option.map_eq_some_iff.mp hf;let⟨hh,g,d,tk,os⟩:=s1;refine Ip FB T hC hN hi (I1.oB _ _ ho) hc (λh' a M=>?_) (by show ↑us<=sizeLine;rw[← ↑r];exact q1);let⟨t0,ht,_⟩:=M.there;have hq:=q2 a (pM I1.hok M.new);have I2:Inv X ak σ (aM H1 a (Dn C a)) ⟨h',g,d,tk,os⟩:=RP (s:=⟨hh,g,d,tk,os⟩) (t':=tk) I1 M.keeps M.new (Ka ht);have r2:b8 (V.ref a::(vs++uP)) (Value.ref a::(us++ds)):=.cons rfl (r.append hd)
 have hl:↑(Value.ref a::us++ds)=↑ps:=by
  have z:=↑r2;rw[F.len _ _ _ _ hq]at z;exact z.symm
 refine wpAny_call (codeAny_mono (F.run _ X.stack _ _ ⟨Value.ref a::us,[]⟩ (Value.ref a::(us++ds)) _ _ E (hr.make C us []) (I2.QF.make C us []) (hb _ (Value.ref a::us) I2.oB hl) r2 hq) λr s' Nj=>?_)
 cases r with
 | error e=>exact hp ak σ _ _ e s' I2 Nj
 | ok fl =>
  cases fl with
  | ret u =>
   let⟨v,H',I3,rv,ev,q3⟩:=I2.after Nj;subst ev;exact⟨rv,⟨V.ref a,H',I3,rfl,q3⟩⟩
  | next=>exact False.elim Nj
  | brk=>exact False.elim Nj
  | cont=>exact False.elim Nj
def Wd(K:Frag)(t:TA):TE:=fun σ H Q=>t σ H λvs H1=>∃ a C fa m9,vs=↥a::m9/\↑m9<=sizeLine/\H1 a=⇑(Dn C a)/\tS K C QS "ValueError.__new__" fa=true/\Q .fV (aM H1 a (Dn C a))
theorem OA{pl:Sem Bool}(FB:ExcBaseFacts "ValueError" "ValueError.__new__" "ValueError.__init__" QS)(hm:X.mg y=⇑↥CI)(h1:specialIn X.K ↥CI "__getattribute__"=⇑(⇑(.builtin "type.__getattribute__")))(h2:readsIn X.K CI (.type "type")=true)(h3:findCls X.K ↥CI (.type "type") "__init__"=⇑(.val (.builtin "ValueError.__init__")))(ha:PA X (e::es) t)
  (hh:handedIn (.builtin "ValueError.__init__")=true:=by decide +kernel) (hg:Gl X y:=by rfl) (AX:(y == ("__debug__":Str))=false:=by decide) (he:starEach (e::es) X.env=(false,eval e X.env)::starEach es X.env:=by rfl) (sN:(backTo iU (starEach es X.env)).any (·.1)=false:=by rfl)
  (hev:eval (.Call (.Attribute (.Name y np) "__init__" ap) (e::es) [] iU) X.env=(do
   let ov ← eval (.Name y np) X.env
   standAt ap.atName
   let (f,first) ← holding [ov] (getMethod ov "__init__" pl)
   callWith iU f first (backTo iU (starEach (e::es) X.env)) (backToKw iU (keywordEach [] X.env))):=by rfl) :
  PE X (.Call (.Attribute (.Name y np) "__init__" ap) (e::es) [] iU) (Wd X.K t):=by
 intro ak s σ H Q I h;refine methodCall_KW (pl:=pl) (mQ I hg hm ?_ AX) hev;refine method_cls I.oB h1 (cls_value I.oB h2 h3 hh ?_);refine PyProof.Rows.callWith_builtin1 (cI (ha iU ak _ σ H _ (I.tok _) h) λus s1 ⟨vs,H1,I1,r,a,C,fa,m9,ev,hz,ea,hx,q⟩=>?_) he sN;subst ev
 cases r with
 | cons r1 r2 =>
  rename_i u1 us2 _;cases (show u1=Value.ref a from r1);let⟨tl,Nd,c1,c2,c3,c4,c5,c6,c7,c8,c9,d0,d1,d2,d3,d5,mN,hC,hN,hi,T⟩:=zU I1.oB hx;let⟨⟨t0,z⟩,_⟩:=(show cV X.prog X.w H1 s1.heap a (Dn C a) from I1.hok a _ ea);let⟨h5,g,d,tk,os⟩:=s1;refine LL FB T hC z (by rw[← ↑r2];exact hz) λh' t1 e1 e2=>⟨.fV,_,RQ (s:=⟨h5,g,d,tk,os⟩) (t':=tk) I1 ea e2 ⟨_,e1⟩ (Ka e1),rfl,q⟩
end
end gh
namespace gh
open Spec Rows PySem.W L2 cO dX
end gh
namespace gG
open Spec Rows L2 cO dX yr
theorem fc{N P:List Str}{sc:Scope}(a:sc.kind=.function:=by rfl)(b:sc.isCoroutine=false:=by rfl)(c:sc.isGenerator=false:=by rfl)(d:N.Nodup:=by decide +kernel)(e:N.take ↑P=P:=by rfl)(f:∀ x∈P,sc.names.lookup x=⇑.local\/sc.names.lookup x=⇑.cell:=by decide +kernel)(g:∀ y∈sc.names,y.2≠.free:=by decide +kernel):aH N P sc:=⟨a,b,c,d,e,f,g⟩
section
variable {P:Program} {w:World} {K:PySem.W.Frag} {mg:Str->Option Value} {zt:Heap}
theorem fH{x cE:Str}{st:Stmt}{f:Addr}{N ps:List Str}{k:Nat}{sp:Sp}(F:NG K x cE st f fd)(S:aH N ps (aB st))
  (uQ:∀ (cJ:Value) (A:Around) (zn:List Env) (s:Shared) (H:Hp) (vs:List V) (Q:VK) (E:XK),gT k (A.deeper (envOfC cE (aB st) s.heap.objs.size f cJ))->sp vs H Q E->
   ∃ t,CK (EO cP P w K mg zt N cE (aB st) f cJ A zn s H E).EI (iJ st) t/\t { nx:=λ_ H'=>Q .fV H',rt:=Q } (L2.start N vs) H) (len:∀ vs H Q E,sp vs H Q E->↑vs=↑ps:=by intro _ _ _ _ h;cases h;subst_vars;rfl):aY P w K mg zt cP (k+1) f fd ps sp:=F.ok S len uQ
theorem ZK{x cE:Str}{st:Stmt}{f:Addr}{N ps:List Str}{k:Nat}{sp:Sp}(F:NG K x cE st f fd)(S:aH N ps (aB st))
  (uQ:∀ (cJ:Value) (A:Around) (zn:List Env) (s:Shared) (H:Hp) (vs:List V) (Q:VK) (E:XK),gT k (A.deeper (envOfC cE (aB st) s.heap.objs.size f cJ))->sp vs H Q E->
   ∃ t,CK (Dd P w K mg zt N cE (aB st) f cJ A zn s H E) (iJ st) t/\t { nx:=λ_ H'=>Q .fV H',rt:=Q } (L2.start N vs) H) (len:∀ vs H Q E,sp vs H Q E->↑vs=↑ps:=by intro _ _ _ _ h;cases h;subst_vars;rfl):aY P w K mg zt (Es P w) (k+1) f fd ps sp:=okX F S len uQ
end
section
variable {X:Cx}
theorem aW{i:Nat}{x:Str}{e:Expr}{te:TE}{pos:Pos}(hN:X.N.Nodup)(he:PE X e te)(hi:X.N[i]?=⇑x:=by rfl)(hx:Loc X.env.scope x:=by first|exact Or.inl rfl|exact Or.inr rfl)(hs:swapsWith e (some (.Name x gS)) pos.line X.env=pure false:=by rfl)(hf:X.fn x=true\/X.env.scope.names.lookup x=⇑.local:=by first|exact .inl rfl|exact .inr rfl|assumption) :
  PS X (.Assign [.Name x gS] e pos) (M5 te (sM i)):=U0 hN hi hx he hs hf
theorem bW{i:Nat}{x:Str}(hN:X.N.Nodup)(hi:X.N[i]?=⇑x:=by rfl)(hx:Loc X.env.scope x:=by first|exact Or.inl rfl|exact Or.inr rfl)(hf:X.fn x=true\/X.env.scope.names.lookup x=⇑.local:=by first|exact .inl rfl|exact .inr rfl|assumption):PG X (.Name x pos) (sM i):=Qz hN hi hx hf
def bI{r:R2}{a b:Expr}{ta tb:TE}(hr:XU X r)(ha:PE X a ta)(hb:PE X b tb)(hs:JK b:=by exact λ_ _=>rfl):PE X (.Subscript a b pos) (YO r ta tb):=Y0 hr ha hb hs
def gJ{o i:Expr}{td ty:TE}(hu:X.A.units+1<cLine)(ho:PE X o td)(hi:PE X i ty)(hs:VP i:=by exact λ_ _=>rfl):PE X (.Subscript o i pos) (Uc td ty):=Rp hu ho hi hs
theorem ef{e:Expr}{te:TE}{p:Pos}(hm:X.mg "len"=none)(he:PE X e te)(hg:Gl X "len":=by rfl)(uM:starEach [e] X.env=(false,eval e X.env)::starEach [] X.env:=by rfl):PE X (.Call (.Name "len" p) [e] [] pos) (tCB (Vj X.K) (Nf te zm)):=cu CY hg hm PySem.boot_len (aa he aj (hs:=uM)) (by decide) (by decide) uM rfl
variable {CX:K9} {j k:Nat} {f C fi:Addr} {fd:FuncData} {ps:List Str} {sp:Sp} {E:XK} {m cn q:Str} {st:Stmt} {pos jh:Pos} {e o:Expr} {es:List Expr} {ta:TE} {t:TA} {pl:Sem Bool}
def eN(he:PE X o ta)(c:ClsAt X.K X.mg cn C fi)(d:cW X.K C m q st ps f fd)(F:aY X.prog X.w X.K X.mg X.zt CX k f fd ps sp)(hr:gT j X.A)(hx:jz CX X E)(ha:PA X (e::es) t)(Q0:k<=j:=by first|decide|lia)
  (uM:starEach (e::es) X.env=(false,eval e X.env)::starEach es X.env:=by rfl) (sN:(backTo pos (starEach es X.env)).any (·.1)=false:=by rfl)
  (ht:eval (.Call (.Attribute o m jh) (e::es) [] pos) X.env=(do
   let ov ← eval o X.env
   standAt jh.atName
   let (f,first) ← holding [ov] (getMethod ov m pl)
   callWith pos f first (backTo pos (starEach (e::es) X.env)) (backToKw pos (keywordEach [] X.env))):=by rfl) :
  PE X (.Call (.Attribute o m jh) (e::es) [] pos) (JD C m sp [] E ta t):=QG he c.cl d.mt F (hr.mono Q0) d.b .nil hx ha uM sN ht
def fQ(he:PE X o ta)(c:ClsAt X.K X.mg cn C fi)(d:cW X.K C m q st ps f fd)(F:aY X.prog X.w X.K X.mg X.zt CX k f fd ps sp)(hr:gT j X.A)(hx:jz CX X E)(Q0:k<=j:=by first|decide|lia)
  (ht:eval (.Call (.Attribute o m jh) [] [] pos) X.env=(do
   let ov ← eval o X.env
   standAt jh.atName
   let (f,first) ← holding [ov] (getMethod ov m pl)
   callWith pos f first (backTo pos (starEach [] X.env)) (backToKw pos (keywordEach [] X.env))):=by rfl) :
  PE X (.Call (.Attribute o m jh) [] [] pos) (JD C m sp [] E ta zm):=Nh he c.cl d.mt F (hr.mono Q0) d.b .nil hx ht
end
def iZ:0<=sizeLine:=by decide
def jY:1<=sizeLine:=by decide
def qU:2<=sizeLine:=by decide
def Ir:3<=sizeLine:=by decide
def LM:4<=sizeLine:=by decide
def aeu:5<=sizeLine:=by decide
theorem Wf{x:V}{r:List V}:qF (x::r) 0=⇑x:=dF (j:=0) rfl
end gG
namespace ZL
open Spec Rows L2 cO
end ZL
namespace gG
open Spec Rows L2 cO dX yr ZL
end gG
namespace A4
open Spec Rows L2 cO dX gG PySem.W
end A4
namespace gh
open Spec Rows PySem.W L2 cO dX
def Qn(H:Hp)(a:Addr):Hp:=λb=>if b=a then none else H b
theorem wU{H:Hp}{a b:Addr}(n:b≠a):Qn H a b=H b:=if_neg n
theorem vn{H:Hp}{a:Addr}:Qn H a a=none:=if_pos rfl
def Fy{H:Hp}{a b:Addr}(h:H b=none):Qn H a b=none:=by
 by_cases z:b=a
 ·rw[z];exact vn
 ·rw[wU z];exact h
section
variable {P:Program} {w:World} {H H0:Hp} {h h0:Heap} {a:Addr} {φ:Heap->Prop} {fs:List Addr}
def zV{b:Addr}{u:HO}(ha:H a=⇑(.ext φ))(e:H b=⇑u)(n:∀ φ,u≠.ext φ):Qn H a b=⇑u:=by
 rw[wU λz=>by rw[z,ha]at e;cases e;exact n _ rfl];exact e
theorem Wg(u:Un fs [] H0 H h0 h)(ha:H a=⇑(.ext φ)):Un fs [] H0 (Qn H a) h0 h where
 keep:=u.keep
 slot:=u.slot
 free:=λb o e n hx=>Fy (u.free b o e n hx)
 there:=u.there
 tups:=λb xs e=>zV ha (u.tups b xs e) λ_ z=>by cases z
 tM:=λb o v e=>zV ha (u.tM b o v e) λ_ z=>by cases z
 uL:=λb ps e=>by
  let⟨m,q⟩:=u.uL b ps e;exact⟨m,zV ha q λ_ z=>by cases z⟩
theorem RT(k:oH P w H h)(ha:H a=⇑(.ext φ)):oH P w (Qn H a) h:=λb o e=>by
 have n:b≠a:=λz=>by rw[z,vn]at e;cases e
 rw[wU n]at e;exact (k b o e).stay (λ_ _ _ q=>q) (λc q=>zV ha q λ_ z=>by cases z) λc xs q=>zV ha q λ_ z=>by cases z
end
section
variable {P:Program} {w:World} {K:PySem.W.Frag} {mg:Str->Option Value} {zt:Heap} {N:List Str} {cE:Str} {scope:Scope} {f:Addr} {cd:Value} {A:Around} {zn:List Env} {s:Shared} {H:Hp} {E:XK}
def Kc(X:Cx)(E:XK):Prop:=∀ (ak:List (Addr × Obj)) (σ:L2.St) (H:Hp) (s:Shared) (a C dx:Addr),Inv X ak σ H s->X.H₀ a=none->H a=⇑(Iq C a dx)->E ↥C (⇑dx) (Qn H a)->X.xe ↥a s
def RU:Kc (Dd P w K mg zt N cE scope f cd A zn s H E) E:=by
 intro ak σ H1 s1 a C dx I h0 ha q;let⟨⟨t,z⟩,_⟩:=(show cV P w H1 s1.heap a (Iq C a dx) from I.hok a _ ha)
 have sa:s.heap.get? a=none:=by
  cases y:s.heap.get? a with
  | none=>rfl
  | some o =>
   have:=I.zt.free a o y h0 (λz=>absurd (show a∈([]:List Addr) from z) (by simp));rw[ha]at this;cases this
 refine JX (bH:=hideAll s1.heap (a::m8 (Dd P w K mg zt N cE scope f cd A zn s H E).stack)) (a0:=↥t) I.ok.frames rfl (λb o e=>of_hideAll _ e) (hideAll_none _ tL) (funFrames_hide I.stack λenv he b hb=>oE _ (List.mem_filterMap.mpr ⟨env,he,hb⟩)) z rfl rfl rfl rfl λg fl k=>?_
 have p1:∀ b o,s.heap.get? b=⇑o->b∉m8 zn->b∉a::m8 (Dd P w K mg zt N cE scope f cd A zn s H E).stack:=λb o e hb hm=>by
  rcases List.mem_cons.mp hm with rfl|hm
  ·rw[sa]at e;cases e
  ·rw[Ia rfl rfl]at hm;rcases List.mem_cons.mp hm with rfl|hm
   ·exact absurd (Heap.lt_size e) (Nat.not_lt.mpr I.ok.above)
   ·exact hb hm
 let⟨u',CZ,T',F'⟩:=u9 (h0:=s.heap) (fs:=m8 zn) (hd:=a::m8 (Dd P w K mg zt N cE scope f cd A zn s H E).stack) (Wg I.zt ha) (RT I.hok ha) p1 (λb hm=>(List.mem_cons.mp hm).elim (λy=>by rw[y];exact vn) λy=>Fy (I.rJ b y)) (λb hb=>(I.qD.mem hb).2) (λb hm=>(List.mem_cons.mp hm).elim (λy=>.inl (by rw[y];exact sa)) λy=>.inr (nX I b y)) sa vn fl k;exact⟨a,T',↥C,↥t,⇑dx,Qn H1 a,rfl,⟨I.os,I.bare⟩,u',CZ,F',q⟩
end
section
variable {X:Cx} {E:XK} {e:Expr} {te:TE} {pos:Pos}
def RV(K:Frag)(H₀:Hp)(E:XK)(te:TE):TS:=λ_ σ H=>te σ H λv H1=>∃ a C dx fa,v=↥a/\H₀ a=none/\H1 a=⇑(Iq C a dx)/\tS K C QS "ValueError.__new__" fa=true/\E ↥C (⇑dx) (Qn H1 a)
def LN(FB:ExcBaseFacts "ValueError" "ValueError.__new__" "ValueError.__init__" QS)(hc:X.calm=true)(hr:Kc X E)(he:PE X e te):PS X (.Raise (⇑e) none pos) (RV X.K X.H₀ E te):=by
 intro ak s σ H D I h;show wpAny _ _ (do standAt pos;raiseStmt X.env (⇑(do let v ← eval e X.env;standAt pos;pure v)) none) _ _ s;refine wpAny_bind (wpAny_standAt ?_);unfold raiseStmt;dsimp only;refine wpAny_bind (wpAny_bind (cI (he ak s σ H _ I h) λv s1 ⟨x,H1,I1,rx,a,C,dx,fa,ex,G3,ha,hx,q⟩=>wpAny_bind (wpAny_standAt (wpAny_pure ?_))));subst ex;obtain rfl:v=Value.ref a:=rx;let⟨bm,Nd,c1,c2,c3,c4,c5,c6,c7,c8,c9,d0,d1,d2,d3,d5,mN,hC,hN,hi,T⟩:=zU I1.oB hx;let⟨⟨t0,z⟩,_⟩:=(show cV X.prog X.w H1 s1.heap a (Iq C a dx) from I1.hok a _ ha);have hb:=T.hasType FB.hasBase;have hE:=hr ak σ H1 s1 a C dx I1 G3 ha q;have hh:=I.ok.hd hc;have hcB:(Value.ref C::bm).contains (.type "BaseException")=true:=by rw[List.contains_cons,hb,Bool.or_true]
 clear I1 T hN hi;let⟨hp,g,d,tk,os⟩:=s1
 repeat (first|with_reducible refine wpAny_loadPart_at z ?_|with_reducible refine wpAny_loadPart_at hC ?_|(with_reducible refine wpAny_isSubtype_exc hC ?_;rw[hcB])|wp_step)
 exact wpAny_raiseNew_none hh hE
def ZM(K:Frag)(ta:TE)(f:Str):TE:=fun σ H Q=>ta σ H λx H1=>∃ a C dx l fs,x=↥a/\H1 a=⇑(Ov ↥C a dx)/\H1 dx=⇑(.xd fs)/\fs.lookup f=⇑↥l/\ZI K C/\findIn K ↥C f=⇑none/\Q ↥l H1
def RW{K:Frag}{f:Str}{o:Expr}{ta:TE}(he:PE X o ta)(hk:X.K=K:=by rfl)(hb:attributeBase o f X.env (eval o X.env)=eval o X.env:=by rfl):PE X (.Attribute o f pos) (ZM K ta f):=by
 subst hk;intro ak s σ H Q I h;refine JC hb (cI (he ak s σ H _ I h) λu s1 EK=>?_);let⟨x,H1,I1,rx,a,C,dx,l,fs,ex,ea,ed,el,D,hn,q⟩:=EK;subst ex;obtain rfl:u=Value.ref a:=rx;let⟨⟨vs,z⟩,_⟩:=(show cV X.prog X.w H1 s1.heap a (Ov ↥C a dx) from I1.hok a _ ea);let⟨mA,n1,vS⟩:=(show cV X.prog X.w H1 s1.heap dx (.xd fs) from I1.hok dx _ ed);have r:=vS f;rw[el]at r
 have hv:mA f=⇑↥l:=by
  cases m:mA f with
  | none=>rw[m]at r;exact False.elim r
  | some u=>rw[m]at r;exact congrArg some (show u=Value.ref l from r)
 exact RL I1.oB z D.b hn D.ga D.gt n1 hv ⟨↥l,H1,I1.tok _,rfl,q⟩
end
end gh
set_option Elab.async false
set_option linter.all false
set_option maxRecDepth 100000
namespace gG
open L2 cO dX yr VU
structure Nms(mg:Str->Option Value):Prop where
 dP:mg "len"=none
 i6:mg "list"=none
 Kd:mg "tuple"=none
 Uh:mg "int"=none
 Iu:mg "bool"=none
 Ui:mg "str"=none
 iN:mg "range"=none
 ZN:mg "zip"=none
 cR:mg "isinstance"=none
 Uj:mg "sum"=none
 Ke:mg "min"=none
 Fz:mg "max"=none
 ZO:mg "all"=none
 nI:∀ f,mg "size"=⇑↥f->mg "size_spans"=⇑↥f
 zW:∀ f,mg "shown"=⇑↥f->mg "shown_weave"=⇑↥f
 yu:∀ f,mg "weight"=⇑↥f->mg "weight_weave"=⇑↥f
section
variable {P:Program} {w:World} {K:PySem.W.Frag} {mg:Str->Option Value} {zt:Heap}
theorem Iv:aH ["_law_script"] ["_law_script"] (aB wz):=fc
structure Gbs(mg:Str->Option Value):Prop where
 s:∃ t,mg "MOST_SHEETS"=⇑(.int 40 t)
 w:∃ t,mg "MOST_WEIGHT"=⇑(.int 200 t)
 h:∃ t,mg "HIDDEN"=⇑(.str "#" t)
structure Kf(K:PySem.W.Frag)(mg:Str->Option Value)(XG ci fa XH:Addr):Prop where
 m:mg "Ring"=⇑↥XG
 mI:mg "InkError"=⇑↥ci
 kp:PySem.W.keepIn K ↥XG=true
 e:gh.ZI K XG
 x2:gh.tS K XG gh.QS "ValueError.__new__" fa=true
 tf:PySem.W.typeIn K ↥fa=⇑(.type "function")
 wy:PySem.W.findIn K ↥XG "way"=⇑none
 sa:PySem.W.findIn K ↥XG "__setattr__"=⇑(⇑(.builtin "object.__setattr__"))
 i1:PySem.W.specialIn K ↥ci "__getattribute__"=⇑(⇑(.builtin "type.__getattribute__"))
 i2:PySem.W.readsIn K ci (.type "type")=true
 i3:PySem.W.findCls K ↥ci (.type "type") "__init__"=⇑(.val (.builtin "ValueError.__init__"))
 h:PySem.W.exmOne K ↥XG ↥XG=⇑true
 n:PySem.W.exmOne K ↥XH ↥XG=⇑false
structure Ds(K:PySem.W.Frag)(mg:Str->Option Value)(aX:Nat->Addr)(aZ:Nat->FuncData)(C CS CW CB CT CD aA XG ci:Addr):Prop where
 T:Nms mg
 G:Gbs mg
 aS:ClsAt K mg "Library" C (aX 48)
 cN:ClsAt K mg "Shelf" CS (aX 31)
 jc:ClsAt K mg "Well" CW (aX 42)
 uv:ClsAt K mg "Blots" CB (aX 8)
 Cm:ClsAt K mg "Ties" CT (aX 40)
 FA:ClsAt K mg "Dues" CD (aX 41)
 j4:fO K CS "states"
 nR:fO K CS "openings"
 ug:fO K CW "signs"
 uX:fO K CW "owners"
 nU:fO K CW "pourings"
 uY:fO K CB "stains"
 C6:fO K CT "given"
 C7:fO K CT "pairs"
 JP:fO K CD "sums"
 xV:fO K C "well"
 gC:fO K C "shelf"
 zx:fO K C "blots"
 C8:fO K C "knots"
 JQ:fO K C "dues"
 EX:fO K C "book"
 lI:VW K mg "TooHeavy" aA
 jr:Kf K mg XG ci (aX 46) aA
 dq0:bX K mg "_law_src" wz ["_law_script"] (aX 0) (aZ 0)
 AR:bX K mg "_law_next" tT Yu (aX 1) (aZ 1)
 dq2:bX K mg "_law_whole" qH ["_law_found"] (aX 2) (aZ 2)
 MR:bX K mg "_law_same" tU zl3 (aX 3) (aZ 3)
 dq4:bX K mg "plain" HM ["row"] (aX 4) (aZ 4)
 Wh:bX K mg "size" JM ["row"] (aX 5) (aZ 5)
 dq6:bX K mg "check_places" ni ["row","start","stop"] (aX 6) (aZ 6)
 X6:bX K mg "pieces" C0 ["row","start","stop"] (aX 7) (aZ 7)
 dq8:cW K CB "__init__" "Blots.__init__" kH GY (aX 8) (aZ 8)
 dq9:bX K mg "addresses" oQ ["row"] (aX 9) (aZ 9)
 Wi:bX K mg "windows" uW ["items"] (aX 10) (aZ 10)
 Wj:bX K mg "below" C1 ["rows","sheets"] (aX 11) (aZ 11)
 ZP:bX K mg "way_between" oR ["rows","start","goal"] (aX 12) (aZ 12)
 ZQ:bX K mg "ring" NJ zl4 (aX 13) (aZ 13)
 ZR:bX K mg "item_weight" oS ["item","weights"] (aX 14) (aZ 14)
 Wk:bX K mg "weights_below" jD ["rows","sheets"] (aX 15) (aZ 15)
 Wl:bX K mg "weight" C2 zl4 (aX 16) (aZ 16)
 Wm:bX K mg "item_row" wA ["item","views"] (aX 17) (aZ 17)
 RX:bX K mg "views_below" lD ["rows","sheets"] (aX 18) (aZ 18)
 Wn:bX K mg "shown" HN zl4 (aX 19) (aZ 19)
 ZS:bX K mg "goes_on" zu ["one","other"] (aX 20) (aZ 20)
 OB:bX K mg "plain_items" oU ["items"] (aX 21) (aZ 21)
 LO:bX K mg "inked" C3 ["row"] (aX 22) (aZ 22)
 Wq:bX K mg "dealt" HP ["items","views"] (aX 23) (aZ 23)
 ZT:bX K mg "put_among" tV ["items","views","place","others"] (aX 24) (aZ 24)
 Wr:bX K mg "put_items" tW ["rows","sheet","place","items"] (aX 25) (aZ 25)
 ZU:bX K mg "parted" C4 ["items","views","start","stop"] (aX 26) (aZ 26)
 ZV:bX K mg "cut_items" tX ["rows","sheet","start","stop"] (aX 27) (aZ 27)
 RY:bX K mg "ink_words" oV ["row"] (aX 28) (aZ 28)
 ZW:bX K mg "shown_deed" qI ["deed"] (aX 29) (aZ 29)
 Ws:bX K mg "changed" zw ["state","sheet","items"] (aX 30) (aZ 30)
 ZX:cW K CS "__init__" "Shelf.__init__" kJ GY (aX 31) (aZ 31)
 OC:cW K CS "now" "Shelf.now" tY GY (aX 32) (aZ 32)
 Wu:cW K CS "many" "Shelf.many" qJ GY (aX 33) (aZ 33)
 ZY:cW K CS "step" "Shelf.step" qK ["self","changes"] (aX 34) (aZ 34)
 Iw:cW K CS "check_sheet" "Shelf.check_sheet" jj UI (aX 35) (aZ 35)
 ZZ:cW K CS "check_moment" "Shelf.check_moment" iV ["self","moment"] (aX 36) (aZ 36)
 Z0:cW K CS "rows_then" "Shelf.rows_then" iK ["self","moment"] (aX 37) (aZ 37)
 Iz:cW K CS "rows" "Shelf.rows" qL GY (aX 38) (aZ 38)
 Z1:cW K CS "row" "Shelf.row" tZ UI (aX 39) (aZ 39)
 Z2:cW K CT "__init__" "Ties.__init__" lP GY (aX 40) (aZ 40)
 Z3:cW K CD "__init__" "Dues.__init__" lQ GY (aX 41) (aZ 41)
 Z4:cW K CW "__init__" "Well.__init__" lR GY (aX 42) (aZ 42)
 LP:cW K CW "size" "Well.size" t6 GY (aX 43) (aZ 43)
 Z5:cW K CW "pour" "Well.pour" t7 ["self","hand","text"] (aX 44) (aZ 44)
 Z6:cW K CW "holds" "Well.holds" mU ["self","row"] (aX 45) (aZ 45)
 Z7:cW K XG "__init__" "Ring.__init__" jE ["self","way"] (aX 46) (aZ 46)
 Z8:bX K mg "check_weave" oW zl4 (aX 47) (aZ 47)
 Z9:cW K C "__init__" "Library.__init__" jF GY (aX 48) (aZ 48)
 Ww:cW K C "enter" "Library.enter" lS ["self","deed","changes"] (aX 49) (aZ 49)
 OD:cW K C "change" "Library.change" kK ["self","deed","sheet","items"] (aX 50) (aZ 50)
 Wx:cW K C "many" "Library.many" nj GY (aX 51) (aZ 51)
 aaa:cW K C "now" "Library.now" oX GY (aX 52) (aZ 52)
 aab:cW K C "begin" "Library.begin" lT ["self","deed","items"] (aX 53) (aZ 53)
 aac:cW K C "fresh" "Library.fresh" lU GY (aX 54) (aZ 54)
 aad:cW K C "ink" "Library.ink" oY GY (aX 55) (aZ 55)
 aae:cW K C "check_held" "Library.check_held" iW ["self","row"] (aX 56) (aZ 56)
 aaf:cW K C "pour" "Library.pour" nu ["self","hand","text"] (aX 57) (aZ 57)
 aag:cW K C "put" "Library.put" oZ ["self","sheet","place","row"] (aX 58) (aZ 58)
 OE:cW K C "shown" "Library.shown" lV UI (aX 59) (aZ 59)
 aah:cW K C "cut" "Library.cut" pA ["self","sheet","start","stop"] (aX 60) (aZ 60)
 aai:cW K C "row" "Library.row" pB UI (aX 61) (aZ 61)
 Wy:cW K C "window" "Library.window" kL ["self","target","place","source"] (aX 62) (aZ 62)
 aaj:cW K C "weight" "Library.weight" kM UI (aX 63) (aZ 63)
 aak:bX K mg "first_reaching" kO ["holes","start"] (aX 64) (aZ 64)
 aal:bX K mg "within" C5 ["holes","address"] (aX 65) (aZ 65)
 aam:cW K CB "hides" "Blots.hides" pC ["self","address"] (aX 66) (aZ 66)
 aan:cW K CW "check_address" "Well.check_address" iX ["self","address"] (aX 67) (aZ 67)
 aao:cW K CW "sign" "Well.sign" t9 ["self","address"] (aX 68) (aZ 68)
 aap:cW K C "veiled" "Library.veiled" je ["self","row","veil"] (aX 69) (aZ 69)
 aaq:cW K C "text" "Library.text" ny UI (aX 70) (aZ 70)
 aar:cW K C "size" "Library.size" nA UI (aX 71) (aZ 71)
 aas:bX K mg "_law_sign" ua ["_law_src_here","_law_few"] (aX 72) (aZ 72)
 aat:bX K mg "_law_text" pD ["_law_src_here","_law_many"] (aX 73) (aZ 73)
 RZ:bX K mg "_law_world" mW [] (aX 74) (aZ 74)
 LQ:bX K mg "_law_keep" uc ["_law_world_here","_law_rows"] (aX 75) (aZ 75)
 R0:bX K mg "_law_swap" ud ["_law_rows","_law_sheet","_law_entries"] (aX 76) (aZ 76)
 aau:bX K mg "_law_spell" qM ["_law_row"] (aX 77) (aZ 77)
 LR:bX K mg "_law_show" ue Yv (aX 78) (aZ 78)
 Wz:bX K mg "_law_reached" nB Yv (aX 79) (aZ 79)
 WA:bX K mg "_law_pieces" pF zl6 (aX 80) (aZ 80)
 WB:bX K mg "_law_put" wB zl7 (aX 81) (aZ 81)
 aav:bX K mg "_law_cut" wC ["_law_rows","_law_sheet","_law_start","_law_stop"] (aX 82) (aZ 82)
 Sb:bX K mg "_law_weighed" nC Yv (aX 83) (aZ 83)
 aaw:bX K mg "_law_row_of" pG ["_law_numbers"] (aX 84) (aZ 84)
 aax:bX K mg "_law_items_of" lW ["_law_entries"] (aX 85) (aZ 85)
 WC:bX K mg "_law_fits" pH Yv (aX 86) (aZ 86)
 aay:bX K mg "_law_ink_row" nE ["_law_src_here","_law_world_here"] (aX 87) (aZ 87)
 aaz:bX K mg "_law_pour" pI UJ (aX 88) (aZ 88)
 WD:bX K mg "_law_fresh" qN zl9 (aX 89) (aZ 89)
 aaA:bX K mg "_law_begin" qO UJ (aX 90) (aZ 90)
 aaB:bX K mg "_law_walked" pJ ["_law_rows","_law_sheet","_law_way"] (aX 91) (aZ 91)
 aaC:bX K mg "_law_window_way" jW ["_law_house","_law_target","_law_place","_law_source"] (aX 92) (aZ 92)
 aaD:bX K mg "_law_window" pK UJ (aX 93) (aZ 93)
 aaE:bX K mg "_law_between" nF UJ (aX 94) (aZ 94)
 aaF:bX K mg "_law_read" uf ["_law_world_here","_law_numbers"] (aX 95) (aZ 95)
 aaG:bX K mg "_law_sheet_right" jG Yw (aX 96) (aZ 96)
 aaH:bX K mg "_law_seen" pL zl9 (aX 97) (aZ 97)
def nth{α:Type}:List α->α->Nat->α
 | [],d,_=>d
 | a::_,_,0=>a
 | _::l,d,n+1=>nth l d n
theorem IA:‹(1,0,["_law_script"],(T5 K))›:=λD=>by
 specialize fH D.dq0.F Iv;let⟨a,ns,rfl,hS,k⟩:=h;exists _,(ay (aN (bO (aa (eT fY rfl D.T.i6 sf (aa (jb lC (pv 0) lu (jA aC)) aj)) (aa aC (aa aC (aa aC aj)))))));refine⟨Y,Y,a,Y,hS,λp hp=>?_⟩;refine⟨p,Y,.inl (bC.of ah),λc hc=>?_⟩;refine⟨LM,λl hl=>?_⟩;let⟨ms,em⟩:=NW ns none (some 63);have G4:c≠l:=az (H:=aM (aM H p _) c _) ah hl;have s1:aJ H (aM H p (.lst (jN (ns.map V.int) none (some 63)))):=au hp _;have s2:=s1.trans (au hc (.lst (jN (ns.map V.int) none (some 63))));refine k l c _ ⟨G4,ms,0,0,1,ah,?_,E,E,E⟩ (s2.trans (au hl _)) (s2.free hl) (s1.free hc);rw[aG G4,ah,em]
theorem mX:aH ["_law_src_here","_law_base","_law_cell","_law_digit"] ["_law_src_here","_law_base"] (aB tT):=fc
theorem fB:‹(1,1,["_law_src_here","_law_base"],wG)›:=λD=>by
 specialize fH D.AR.F mX;let⟨l,c,b,rfl,S,hb0,FD,k⟩:=h;exists _,(ao (HW (t':=Vw) (bS (br gy (bI bw (pv 0) aC) aC (bx _)) (ao (aW (i:=2) mX.nd aC) (ao (HW (t':=Vx) (bS (br mS (bI bw (pv 0) aC) (ef D.T.dP (bI bw (pv 0) aC)) (bx _)) (ao (aW (i:=2) mX.nd (bI bw (bI bw (pv 0) aC) (bI bw (pv 0) aC))) (ay (nh (bJ eU (bI bw (pv 0) aC) aC) (oN (pv 0) aC jB)))) bG) ?b2) (ao (nh (bJ zh (bJ eU (bJ eU (bJ Hs (bI bw (pv 0) aC) aC) (bJ zh (pv 2) aC)) aC) aC) (oN (pv 0) aC jB)) (ay (bS (br Na (pv 2) (bJ M8 aC aC) (bx _)) (ay (nh (pv 2) (oN (pv 0) aC jB))) bG))))) bG) ?b1) (ao (bS (br BF (bI bw (pv 0) aC) aC (bx _)) (ao (aW (i:=3) mX.nd (bJ zh (bI bw (pv 0) aC) (pv 1))) (ao (nh (bJ zy (bI bw (pv 0) aC) (pv 1)) (oN (pv 0) aC jB)) (ay (aN (pv 3))))) bG) (ay (aN (bJ zh (bJ zy (bJ zh (bJ Hs (bI bw (pv 0) aC) aC) aC) aC) (pv 1))))))
 case b2 =>
  rintro D σ H ⟨l,c,b,rfl,⟨G4,ns,i,d,r,hl,hc,hi,yb,hr1⟩,k⟩;exists Y,l,K,V,bC.of hl,Vt,Y,l,K,V,bC.of hl,Zf,c,Y,.inl (bC.of hc),Z,Y;refine cT (λc2=>?_) (λc2=>?_)
  ·have c3:i<(↑ns:Int):=by
    have z:=of_decide_eq_true c2;rwa [cy]at z
   let⟨v,hv⟩:=Q6 hi c3;exists Y,l,K,V,bC.of hl,Zf,Y,l,K,V,bC.of hl,Vt,c,K,V,bC.of hc,hv;exists Y,l,K,V,bC.of hl,Vt,Z,Y,l,P,1,V,hl,rfl;exact k v _ ⟨G4,ns,i+1,d,r,ah,by rw[aG G4];exact hc,Q,yb,hr1⟩ λa ha=>aG ha
  ·exact k 7 H ⟨G4,ns,i,d,r,hl,hc,hi,yb,hr1⟩ λa _=>rfl
 case b1 =>
  rintro D σ H ⟨l,c,b,rfl,S,k⟩;let⟨G4,ns,i,d,r,hl,hc,hi,yb,hr1⟩:=id S;exists Y,l,K,V,bC.of hl,Q2,Z,Y;refine cT (λc1=>?_) (λc1=>?_)
  ·refine⟨l,c,b,rfl,S,λcell H1 S1 k1=>?_⟩;let⟨_,ns1,i1,d1,r1,HR,X7,hi1,Kg,G5⟩:=id S1;exists Y,l,K,V,bC.of HR,Zg,Z,.inl ⟨Q,Q⟩,Y,Z,(by show (0:Int)<998244353;decide),Z,Z,Z,(by show (0:Int)<2147483647;decide),Y,l,P,3,V,HR,rfl;exists Y,Z,⟨E,E,E⟩,Z,Y;have b0:0<=(r1*48271+cell % 998244353+1) % 2147483647:=Int.emod_nonneg _ (by decide);have b1:(r1*48271+cell % 998244353+1) % 2147483647<2147483647:=Int.emod_lt_of_pos _ (by decide);refine cT (λc2=>?_) (λc2=>?_)
   ·exists Y,Y,l,P,2,V,ah,rfl;refine k _ _ ⟨G4,ns1,i1,cell,_,ah,?_,hi1,b0,b1⟩ λa ha=>?_
    ·rw[aG G4,aG G4];exact X7
    ·rw[aG ha,aG ha];exact k1 a ha
   ·refine k _ _ ⟨G4,ns1,i1,d1,_,ah,?_,hi1,b0,b1⟩ λa ha=>?_
    ·rw[aG G4];exact X7
    ·rw[aG ha];exact k1 a ha
  ·exact k none H S λa _=>rfl
 refine⟨l,c,b,rfl,S,λcell H1 S1 k1=>?_⟩;let⟨G4,ns,i,d,r,hl,hc,hi,yb,hr1⟩:=S1;exists Y,l,K,V,bC.of hl,Q2,Z,Y;refine cT (λc1=>?_) (λc1=>?_)
 ·exists Y,l,K,V,bC.of hl,Q2,Y,Z,hb0;exists Y,l,K,V,bC.of hl,Q2,Y,Z,⟨hb0,FD⟩,Y,l,P,2,V,hl,rfl;exists Y;refine k (d % b) _ (Int.emod_nonneg _ ∅) (Int.emod_lt_of_pos _ hb0) ⟨G4,ns,i,d / b,r,ah,?_,hi,yb,hr1⟩ λa ha=>?_
  ·rw[aG G4];exact hc
  ·rw[aG ha];exact k1 a ha
 ·exists Y,l,K,V,bC.of hl,Zg,Z,.inl ⟨Q,Q⟩,Z,(by show (0:Int)<2147483399;decide),Z,⟨E,E⟩,Y,Z,hb0;exact k _ _ (Int.emod_nonneg _ ∅) (Int.emod_lt_of_pos _ hb0) ⟨G4,ns,i,d,r,hl,hc,hi,yb,hr1⟩ k1
theorem Dp:aH ["_law_found"] ["_law_found"] (aB qH):=fc
theorem qV:aH ["_law_found","_law_due","_law_one","_law_other"] ["_law_found","_law_due"] (aB tU):=fc
theorem vo:‹(1,2,["_law_found"],JU)›:=λD=>by
 specialize fH D.dq2.F Dp;let⟨i,rfl,k⟩:=h;exists _,(ay (aN (ng (cu dB rfl D.T.cR vX (aa (pv 0) (aa (nV rfl D.T.Uh PyProof.Rows.boot_int) aj))) (oK (UU (cu dB rfl D.T.cR vX (aa (pv 0) (aa (nV rfl D.T.Iu PyProof.Rows.boot_bool) aj))))))));exact⟨Y,K,Y,jT.int i,Zk K,Y,ji ⟨Y,K,Y,jT.int i,Zj K,Y,k⟩⟩
def A5(D:Ds K mg aX aZ C CS CW CB CT CD aA XG ci){n:Nat}(FE:aY P w K mg zt cP 1 (aX 2) (aZ 2) ["_law_found"] JU)(fG:aY P w K mg zt cP (n+1) (aX 3) (aZ 3) ["_law_found","_law_due"] (wH n)):aY P w K mg zt cP (n+2) (aX 3) (aZ 3) ["_law_found","_law_due"] (wH (n+1)):=by
 refine D.MR.F.ok qV (λvs H Q E h=>?_) (λcJ A zn s H vs Q E hr h=>?_)
 ·let⟨x,y,rfl,_⟩:=h;rfl
 let⟨x,y,rfl,h,k⟩:=h;exists _,(ao (bS (zf (M4 (pv 1))) (ay (aN (UT (M4 (pv 0))))) bG) (ao (bS (fN (cu dB rfl D.T.cR vX (aa (pv 1) (aa (nV rfl D.T.Iu PyProof.Rows.boot_bool) aj)))) (ay (aN (ng (cu dB rfl D.T.cR vX (aa (pv 0) (aa (nV rfl D.T.Iu PyProof.Rows.boot_bool) aj))) (oK (gW gn (pv 0) (pv 1) (bx _)))))) bG) (ao (bS (fN (cu dB rfl D.T.cR vX (aa (pv 1) (aa (nV rfl D.T.Uh PyProof.Rows.boot_int) aj)))) (ay (aN (ng (aI D.dq2 FE hr (aa (pv 0) aj)) (oK (gW gn (pv 0) (pv 1) (bx _)))))) bG) (ao (bS (fN (cu dB rfl D.T.cR vX (aa (pv 1) (aa (nV rfl D.T.Ui PyProof.Rows.boot_str) aj)))) (ay (aN (ng (cu dB rfl D.T.cR vX (aa (pv 0) (aa (nV rfl D.T.Ui PyProof.Rows.boot_str) aj))) (oK (gW gn (pv 0) (pv 1) (bx _)))))) bG) (ao (bS (PW.pt (sL (br EM (cu dB rfl D.T.cR vX (aa (pv 1) (aa (nV rfl D.T.i6 sf) aj))) (cu dB rfl D.T.cR vX (aa (pv 0) (aa (nV rfl D.T.i6 sf) aj))) (bx _)) (v7 (br EM (cu dB rfl D.T.cR vX (aa (pv 1) (aa (nV rfl D.T.Kd PyProof.Rows.boot_tuple) aj))) (cu dB rfl D.T.cR vX (aa (pv 0) (aa (nV rfl D.T.Kd PyProof.Rows.boot_tuple) aj))) (bx _))))) (ay (aN iS)) bG) (ao (bS (br EM (ef D.T.dP (pv 0)) (ef D.T.dP (pv 1)) (bx _)) (ay (aN iS)) bG) (ao (dN PassesOwn.never rfl (Vs rfl D.T.ZN (aa (pv 0) (aa (pv 1) aj))) (oM (n:=2) rfl (b9 (bW (i:=2) qV.nd) (b9 (bW (i:=3) qV.nd) iI))) (ay (bS (gg (fN (aI D.MR fG hr (aa (pv 2) (aa (pv 3) aj))))) (ay (aN iS)) bG))) (ay (aN iS)))))))));have kk:=k H (aJ.refl H);rcases h with ⟨hf,rfl⟩|⟨kd,a,b,xs,ys,rfl,rfl,h1,h2,hl,hi⟩
 ·cases x with
  | fV =>
   refine⟨Y,Y,cT (λ_=>?_) (λc=>absurd (decide_eq_true rfl) c)⟩;exact⟨Y,tt rfl kk⟩
  | bl v =>
   refine⟨Y,Y,cT (λc=>absurd (of_decide_eq_true c) (λz=>nomatch z)) (λ_=>?_)⟩;refine⟨Y,K,Y,jT.bl v,Zi K,Y,ji ?_⟩;exact⟨Y,K,Y,jT.bl v,Zi K,Y,ji ⟨Y,Y,rfl,tt rfl kk⟩⟩
  | int i =>
   refine⟨Y,Y,cT (λc=>absurd (of_decide_eq_true c) (λz=>nomatch z)) (λ_=>?_)⟩;refine⟨Y,K,Y,jT.int i,Zj K,Y,dM ?_⟩;refine⟨Y,K,Y,jT.int i,Zk K,Y,ji ?_⟩;exact⟨Y,i,rfl,Y,ji ⟨Y,Y,rfl,tt rfl kk⟩⟩
  | str v =>
   refine⟨Y,Y,cT (λc=>absurd (of_decide_eq_true c) (λz=>nomatch z)) (λ_=>?_)⟩;refine⟨Y,K,Y,jT.str v,adO K,Y,dM ?_⟩;refine⟨Y,K,Y,jT.str v,adP K,Y,dM ?_⟩;refine⟨Y,K,Y,jT.str v,Zl K,Y,ji ?_⟩;exact⟨Y,K,Y,jT.str v,Zl K,Y,ji ⟨Y,Y,rfl,tt rfl kk⟩⟩
  | _=>cases hf
 ·refine⟨Y,Y,cT (λc=>absurd (of_decide_eq_true c) (λz=>nomatch z)) (λ_=>?_)⟩;refine⟨Y,K,Y,h2.ty,adY K kd,Y,dM ?_⟩;refine⟨Y,K,Y,h2.ty,adZ K kd,Y,dM ?_⟩;refine⟨Y,K,Y,h2.ty,ad0 K kd,Y,dM ?_⟩;refine⟨Y,K,Y,h2.ty,Zm K kd,Y,K,Y,h1.ty,Zm K kd,rfl,Y,EU rfl ?_⟩;refine⟨Y,K,Y,h2.ty,Zn K kd,Y,K,Y,h1.ty,Zn K kd,rfl,Y,EU rfl ?_⟩;refine⟨Y,a,Y,h1.or,Y,b,Y,h2.or,rfl,Y,EU (by rw[hl]) ?_⟩;refine⟨Y,Y,kd,a,b,xs,ys,rfl,h1.sq,h2.sq,QY (λi σ H2=>∃ u v,σ=[⇑↥a,⇑↥b,u,v]/\aJ H H2) hl ⟨none,none,rfl,aJ.refl H⟩ (by rintro i σ H2 _ ⟨_,_,_,s⟩;exact⟨(h1.same s).sq,(h2.same s).sq⟩) ?_ ?_⟩
  ·rintro i u v p σ H2 eu ev hp ⟨_,_,rfl,s⟩;exists p,Y,gV.of ah,rfl,u,[v],rfl,v,[],V;have s2:=s.trans (au hp (.tup [u,v]));refine⟨Y,Y,u,v,rfl,Eqv.same s2 (hi i u v eu ev),λH4 s4=>⟨Y,dM ?_⟩⟩;exact⟨P,rfl,s2.trans s4⟩
  ·rintro σ H2 ⟨_,_,rfl,s⟩;exact k H2 s
theorem ki(D:Ds K mg aX aZ C CS CW CB CT CD aA XG ci):∀ n:Nat,aY P w K mg zt cP (n+1) (aX 3) (aZ 3) ["_law_found","_law_due"] (wH n)
 | 0=>by
  have no:∀ vs H Q E,¬ wH 0 vs H Q E:=λvs H Q E h=>by
   let⟨x,y,_,h,_⟩:=h;exact h
  exact⟨λvs H Q E h=>absurd h (no vs H Q E),λA zn s H args us vs Q E _ _ _ _ h=>absurd h (no vs H Q E)⟩
 | n+1=>A5 D (vo D) (ki D n)
theorem yW:aH ["row","told","start","stop"] ["row"] (aB HM):=fc
theorem FF:‹(1,4,["row"],Q5)›:=λD=>by
 specialize fH D.dq4.F yW;let⟨r,row,rfl,⟨as,hr1,hp⟩,cZ,k⟩:=h;refine⟨_,(ao (aW (i:=1) yW.nd (bO aj)) (ao (dN PassesOwn.never rfl (cz (pv 0)) (oM (n:=2) rfl (b9 (bW (i:=2) yW.nd) (b9 (bW (i:=3) yW.nd) iI))) (ao (bS (br gn (pv 2) (pv 3) (bx _)) (ay EJ) bG) (ay (bS (PW.pt (oJ (lO (pv 1) (λ_=>rfl)) (mR (br gn (bI dh (bI bw (pv 1) (gm dQ aC)) aC) (pv 2) (bx _))))) (ay (nh (eL (aa (bI dh (bI bw (pv 1) (gm dQ aC)) aC) (aa (pv 3) aj))) (oN (pv 1) (gm dQ aC) jB))) (ay (aV (dI qm jQ jR bT (pv 1) (aa (eL (aa (pv 2) (aa (pv 3) aj))) aj)))))))) (ay (aN (pv 1))))),?_⟩;refine⟨iZ,λq hq=>?_⟩;have s0:aJ H (aM H q (.lst [])):=au hq _;refine⟨Y,r,rfl,⟨_,bC.of (s0 _ _ hr1)⟩,dz (K:=K) (a:=r) (xs:=as.map V.ref) (λi σ H2=>∃ (bs:List Addr) (u v:Option V),σ=[⇑↥r,⇑↥q,u,v]/\H2 q=⇑(.lst (bs.map V.ref))/\bN H2 bs ((row.take i).foldl d7 [])/\aJ H H2) ⟨[],none,none,rfl,ah,.nil,s0⟩ (by rintro i σ H2 _ ⟨_,_,_,_,_,_,s⟩;exact bC.of (s _ _ hr1)) ?_ ?_⟩
 ·rintro i x σ H2 hi ⟨bs,u,v,rfl,eK,hb,s⟩;rw[gf]at hi;let⟨a,ea,rfl⟩:=Option.map_eq_some_iff.mp hi;let⟨⟨st,en⟩,ep,ha⟩:=hp.get ea;have step:=Lq (f:=d7) ep
  have bl:↑bs<sizeLine:=by
   have z:=hb.len;have z2:=E7 (row.take i) [];rw[gO]at z2;exact aQ (by simp only[qp]at z2;lia)
  exists a,Y,gV.of (s _ _ ha),rfl,P,rfl,Z;refine⟨Y,Y,rfl,Y,cT (λc=>?_) (λc=>?_)⟩
  ·have e:st=en:=V.int.inj (of_decide_eq_true c);refine⟨bs,P,rfl,eK,?_,s⟩;rw[step,d7,if_pos e];exact hb
  ·have e:¬ st=en:=λz=>c (decide_eq_true (congrArg V.int z));rw[d7,if_neg e]at step;rcases qo ((row.take i).foldl d7 []) with hn|⟨rw0,q0,hn⟩
   ·rw[hn]at hb step;have hbs:bs=[]:=List.eq_nil_of_length_eq_zero hb.len;subst hbs;refine⟨Y,false,.inl ⟨_,bC.of eK,rfl⟩,dM (dM ?_)⟩;refine⟨Y,.inl ⟨rfl,_,bC.of eK⟩,Y,Y,qU,λt ht=>⟨q,Z,au ht _ _ _ eK,(by show 0<sizeLine;decide),?_⟩⟩;let⟨g1,g2,g3⟩:=E6 (st:=st) (en:=en) hq s eK hb ht;refine⟨[]++[t],P,rfl,g1,?_,g3⟩;rw[step,lX];exact g2
   ·rw[m6]at hn;rw[hn]at hb step;let⟨cs,a0,rfl,hc,G3⟩:=hb.split;have G6:H2 q=⇑(.lst (cs.map V.ref++[↥a0])):=by rw[eK,gU];rfl
    refine⟨Y,true,.inl ⟨_,bC.of G6,by simp⟩,ji ?_⟩;refine⟨Y,Y,q,K,V,bC.of G6,eX _ _,a0,K,V,gV.of G3,Vu,Y,rfl,Y,cT (λc2=>?_) (λc2=>?_)⟩
    ·have e2:q0.2=st:=V.int.inj (of_decide_eq_true c2);refine⟨Y,Y,q,K,V,bC.of G6,eX _ _,a0,K,V,gV.of G3,Zh,Y,qU,λt ht=>?_⟩;exists Y,Y,q,P,↑cs,V,au ht _ _ _ G6,N3 cs a0;let⟨g1,g2,g3⟩:=turned (st:=q0.1) (en:=en) hq s G6 hc ht;refine⟨cs++[t],P,rfl,g1,?_,g3⟩;rw[step,lY _ e2];exact g2
    ·have e2:¬ q0.2=st:=λz=>c2 (decide_eq_true (congrArg V.int z));refine⟨Y,.inl ⟨rfl,_,bC.of eK⟩,Y,Y,qU,λt ht=>⟨q,Z,au ht _ _ _ eK,(by rw[cy];exact bl),?_⟩⟩;let⟨g1,g2,g3⟩:=E6 (st:=st) (en:=en) hq s eK hb ht;refine⟨cs++[a0]++[t],P,rfl,g1,?_,g3⟩;rw[step,lZ _ e2];exact g2
 ·rintro σ H2 ⟨bs,u,v,rfl,eK,hb,s⟩;refine⟨Y,k q H2 ⟨bs,eK,?_⟩ s hq⟩;rw[cy,hp.len,gP]at hb;exact hb
theorem WE:aH ["row"] ["row"] (aB JM):=fc
theorem Dq:‹(1,5,["row"],VC)›:=λD=>by
 specialize fH D.Wh.F WE;let⟨r,row,rfl,⟨as,hr1,hp⟩,cZ,k⟩:=h;refine⟨_,(ay (aN (cu (E1 rfl) rfl D.T.Uj PyProof.Rows.boot_sum (aa (gI (N:=["start","stop"]) (mq (sc:=aB JM) (NX:=["row"]) (jx:=[none,none]) rfl rfl rfl nofun nofun rfl nofun rfl nofun) rfl (cz (pv 0)) (λ_ _ _ _ _ _=>(ve (n:=2) rfl (b9 (bW (i:=0) (show List.Nodup (["start","stop"]:List Str) by decide +kernel)) (b9 (bW (i:=1) (show List.Nodup (["start","stop"]:List Str) by decide +kernel)) iI)))) (λ_ _ _ _ _ _=>gX) (λ_ _ _ _ _ _=>(bJ cS (pv 1) (pv 0)))) aj)))),?_⟩;refine⟨Y,r,rfl,⟨_,bC.of hr1⟩,λacc cK=>gD (K:=K) (a:=r) (xs:=as.map V.ref) (λi σ H2=>∃ u v:Option V,σ=[u,v]/\H2 acc=⇑(.lst (((row.take i).map λp=>p.2-p.1).map V.int))/\aJ H H2) ⟨none,none,rfl,ah,au cK _⟩ (by rintro i σ H2 _ ⟨_,_,_,_,s⟩;exact bC.of (s _ _ hr1)) ?_ ?_⟩
 ·rintro i x σ H2 hi ⟨u,v,rfl,ha,s⟩;rw[gf]at hi;let⟨a,ea,rfl⟩:=Option.map_eq_some_iff.mp hi;let⟨⟨st,en⟩,ep,hpa⟩:=hp.get ea;refine⟨a,Y,gV.of (s _ _ hpa),rfl,P,rfl,Z,yes (ji ?_)⟩;refine⟨Y,Y,Z,_,ha,?_,P,rfl,?_,bQ cK s (aK acc _ _)⟩
  ·rw[cy,cy,gO];exact aQ ∅
  ·rw[ah,take_snoc ep,gU,gU];rfl
 ·rintro σ H2 ⟨u,v,rfl,ha,s⟩;rw[cy,hp.len,gP]at ha;exact⟨acc,Y,bC.of ha,k H2 s⟩
class inductive OF
 | mk (r:Addr) (row:Row) (a b:Int) (_:vs=[↥r,.int a,.int b]) (_:cB H r row) (_:↑row<=1000000) (_:In3 a b (jP row)) (_:∀ H',aJ H H'->Q .fV H')
theorem zX:aH ["row","start","stop"] ["row","start","stop"] (aB ni):=fc
theorem kQ:‹(2,6,["row","start","stop"],OF)›:=λD=>by
 specialize fH D.dq6.F zX;let⟨r,row,a,b,rfl,R,hl,z,k⟩:=h;exists _,(ay (bS (gg (Ls gy gy gy aC (pv 1) (pv 2) (dX.vj D.Wh (D.T.nI _ D.Wh.m) (Dq D) hr (aa (pv 0) aj)))) (ay lN) bG));exists Y,Z,Y;rw[decide_eq_true z.1];refine cT (λ_=>?_) (λc=>absurd rfl c);exists Y,Z,Y;rw[decide_eq_true z.2.1];refine cT (λ_=>?_) (λc=>absurd rfl c);refine⟨Y,r,row,rfl,R,hl,λH1 s1=>⟨Z,Y,?_⟩⟩;rw[decide_eq_true z.2.2];exact dM (k H1 s1)
theorem kj:aH ["row","start","stop","told","ahead","first","last","low","high"] ["row","start","stop"] (aB C0):=fc
theorem wV:‹(1,7,["row","start","stop"],Fd)›:=λD=>by
 specialize fH D.X6.F kj;let⟨r,row,a,b,rfl,⟨as,hr1,hp⟩,cZ,k⟩:=h;exists _,(ao (aW (i:=3) kj.nd (bO aj)) (ao (aW (i:=4) kj.nd aC) (ao (dN PassesOwn.never rfl (cz (pv 0)) (oM (n:=2) rfl (b9 (bW (i:=5) kj.nd) (b9 (bW (i:=6) kj.nd) iI))) (ao (aW (i:=7) kj.nd (cu (rL rfl) rfl D.T.Fz PyProof.Rows.boot_max (aa (bJ cS (pv 1) (pv 4)) (aa aC aj)))) (ao (aW (i:=8) kj.nd (cu (rM rfl) rfl D.T.Ke PyProof.Rows.boot_min (aa (bJ cS (pv 2) (pv 4)) (aa (bJ cS (pv 6) (pv 5)) aj)))) (ao (bS (br mS (pv 7) (pv 8) (bx _)) (ay (aV (dI qm jQ jR bT (pv 3) (aa (eL (aa (bJ eU (pv 5) (pv 7)) (aa (bJ eU (pv 5) (pv 8)) aj))) aj)))) bG) (ay (v9 (i:=4) kj.nd rfl (Or.inl rfl) (bJ cS (pv 6) (pv 5)) U6)))))) (ay (aN (pv 3))))));refine⟨iZ,λq hq=>?_⟩;have s0:aJ H (aM H q (.lst [])):=au hq _;refine⟨Y,r,rfl,⟨_,bC.of (s0 _ _ hr1)⟩,dz (K:=K) (a:=r) (xs:=as.map V.ref) (λi σ H2=>∃ (bs:List Addr) (t:Int) (u v x y:Option V),σ=[⇑↥r,⇑(.int a),⇑(.int b),⇑↥q,⇑(.int t),u,v,x,y]/\t=jP (row.take i)/\H2 q=⇑(.lst (bs.map V.ref))/\bN H2 bs (mP a b 0 (row.take i))/\aJ H H2) ⟨[],0,none,none,none,none,V,ah,.nil,s0⟩ (by rintro i σ H2 _ ⟨_,_,_,_,_,_,_,_,_,_,s⟩;exact bC.of (s _ _ hr1)) ?_ ?_⟩
 ·rintro i x σ H2 hi ⟨bs,t,u,v,x1,y1,rfl,et,eK,hb,s⟩;rw[gf]at hi;let⟨ad,ea,rfl⟩:=Option.map_eq_some_iff.mp hi;let⟨⟨st,en⟩,ep,ha⟩:=hp.get ea;have step:=E9 a b (st,en) (row.take i) 0;rw[← take_snoc ep,Int.zero_add,← et]at step;have et2:t+(en-st)=jP (row.take (i+1)):=by rw[take_snoc ep,NU,et]
  have bl:↑bs<sizeLine:=by
   have z:=hb.len;have z2:=nG a b (row.take i) 0;rw[gO]at z2;exact aQ ∅
  have e1:(if (0:Int) > a-t then (0:Int) else a-t)=max (a-t) 0:=by split <;> lia
  have e2:(if en-st<b-t then en-st else b-t)=min (b-t) (en-st):=by split <;> lia
  exists ad,Y,gV.of (s _ _ ha),rfl,P,rfl,Z;exists Y,Y,Z,P,rfl;exists Y,Y,Z,Y,Y,Z,P,rfl;rw[e1,e2];refine⟨Y,Y,Z,Y,cT (λc=>?_) (λc=>?_)⟩
  ·have c':max (a-t) 0<min (b-t) (en-st):=of_decide_eq_true c;unfold N8 at step;rw[if_pos c']at step;refine⟨Y,.inl ⟨rfl,_,bC.of eK⟩,Y,Y,Z,Y,Y,Z,qU,λtu htu=>⟨q,Z,au htu _ _ _ eK,(by rw[cy];exact bl),?_⟩⟩;let⟨g1,g2,g3⟩:=E6 (st:=st+max (a-t) 0) (en:=st+min (b-t) (en-st)) hq s eK hb htu;exists Y,Y,Y,Z,Z;refine⟨bs++[tu],K,P,rfl,et2,g1,?_,g3⟩;rw[step];exact g2
  ·have c':¬ max (a-t) 0<min (b-t) (en-st):=λz=>c (decide_eq_true z);unfold N8 at step;rw[if_neg c',ic]at step;exists Y,Y,Y,Z,Z;refine⟨bs,K,P,rfl,et2,eK,?_,s⟩;rw[step];exact hb
 ·rintro σ H2 ⟨bs,t,u,v,x1,y1,rfl,et,eK,hb,s⟩;rw[cy,hp.len,gP]at hb;exact⟨Y,k q H2 ⟨bs,eK,hb⟩ s hq⟩
def Bl(CB:Addr)(H:Hp)(x d t:Addr):Prop:=H x=⇑(.ins CB d [("stains",↥t)])
class inductive Sd(CB:Addr)
 | mk (x d:Addr) (_:vs=[↥x]) (_:H x=⇑(.ins CB d [])) (_: ∀ (t:Addr) (H':Hp),Bl CB H' x d t->cB H' t []->cL x H H'->H t=none->Q .fV H')
theorem wW:aH ["self"] ["self"] (aB kH):=fc
theorem vp:‹(1,8,["self"],(Sd CB))›:=λD=>by
 specialize fH D.dq8.F wW;let⟨x,d,rfl,hx,k⟩:=h;exists _,(ay (jg (pv 0) (bO aj) rfl));refine⟨iZ,λt ht=>?_⟩;have nt:t≠x:=(az hx ht).symm;exists Y,x,CB,d,Y,au ht _ _ _ hx,D.uv.cl,D.uY,E;exact k t _ ah ⟨[],by rw[aG nt,ah];rfl,.nil⟩ (λa o e n=>by rw[aG n];exact au ht _ a o e) ht
theorem FG:aH ["row"] ["row"] (aB oQ):=fc
theorem Dr:‹(1,9,["row"],Rf)›:=λD=>by
 specialize fH D.dq9.F FG;let⟨r,row,rfl,⟨as,hr1,hp⟩,hok,cZ,k⟩:=h;refine⟨_,(ay (aN (Cg (N:=["start","stop","address"]) (mq (sc:=aB oQ) (NX:=["row"]) (jx:=[none,none,none]) rfl rfl rfl nofun nofun rfl nofun rfl nofun) rfl (cz (pv 0)) (λ_ _ _ _ _ _=>(ve (n:=2) rfl (b9 (bW (i:=0) (show List.Nodup (["start","stop","address"]:List Str) by decide +kernel)) (b9 (bW (i:=1) (show List.Nodup (["start","stop","address"]:List Str) by decide +kernel)) iI)))) (λ_ _ _ _ _ _=>gX) (λ_ _ _ _ _ _=>(Lo rfl D.T.iN (aa (pv 0) (aa (pv 1) aj)))) (λ_ _ _ _ _ _=>(bW (i:=2) (show List.Nodup (["start","stop","address"]:List Str) by decide +kernel))) (λ_ _ _ _ _ _=>gX) (λ_ _ _ _ _ _=>(pv 2))))),?_⟩;refine⟨Y,r,rfl,⟨_,bC.of hr1⟩,λacc cK=>xZ (K:=K) (a:=r) (xs:=as.map V.ref) (λi σ H2=>∃ u v z:Option V,σ=[u,v,z]/\H2 acc=⇑(.lst ((bz (row.take i)).map V.int))/\aJ H H2) ⟨none,none,none,rfl,ah,au cK _⟩ (by rintro i σ H2 _ ⟨_,_,_,_,_,s⟩;exact bC.of (s _ _ hr1)) ?_ ?_⟩
 ·rintro i x σ H2 hi ⟨u,v,z,rfl,ha,s⟩;rw[gf]at hi;let⟨a,ea,rfl⟩:=Option.map_eq_some_iff.mp hi;let⟨⟨st,en⟩,ep,hpa⟩:=hp.get ea;have b2:st<=en:=hok _ (oA ep);have step:=zE ep
  have lz:↑(bz (row.take i))+(en-st).toNat<=1000000:=by
   have z:=sU row (i+1);rw[step,cX,jH,gi]at z;exact jv z cZ
  refine⟨a,Y,gV.of (s _ _ hpa),rfl,P,rfl,Z,yes (ji ?_)⟩;refine⟨Y,Y,st,en,rfl,E5 (lo:=st) (k:=(en-st).toNat) (λj σ H3=>∃ z:Option V,σ=[⇑(.int st),⇑(.int en),z]/\H3 acc=⇑(.lst ((bz (row.take i)++run st j).map V.int))/\aJ H H3) ⟨z,rfl,?_,s⟩ ?_ ?_⟩
  ·rw[run,ic];exact ha
  ·rintro j σ H3 hj ⟨z,rfl,h3,s3⟩;refine VA ?_;refine ji ?_;refine⟨Y,_,h3,?_,Y,?_,bQ cK s3 (aK acc _ _)⟩
   ·rw[cy,cX,gi];exact aQ ∅
   ·rw[ah,u7,← mL];simp
  ·rintro σ H3 ⟨z,rfl,h3,s3⟩;refine⟨K,rfl,?_,s3⟩;rw[step];exact h3
 ·rintro σ H2 ⟨u,v,z,rfl,ha,s⟩;rw[cy,hp.len,gP]at ha;exact k acc H2 ha s cK
theorem LS(aP:List aR):↑(eZ aP)<=↑aP:=List.length_filterMap_le _ aP
class inductive WG
 | mk (r:Addr) (aP:List aR) (_:vs=[↥r]) (_:bR H ↥r aP) (_:↑aP<=100000) (_ :
 ∀ (o:Addr) (H':Hp),H' o=⇑(.lst ((eZ aP).map V.int))->aJ H H'->H o=none->Q ↥o H')
theorem LV:aH ["items"] ["items"] (aB uW):=fc
theorem zY:‹(1,10,["items"],WG)›:=λD=>by
 specialize fH D.Wi.F LV;let⟨r,aP,rfl,⟨a,vs,e,hr1,hp⟩,cZ,k⟩:=h;cases e;refine⟨_,(ay (aN (gI (N:=["item"]) (mq (sc:=aB uW) (NX:=["items"]) (jx:=[none]) rfl rfl rfl nofun nofun rfl nofun rfl nofun) rfl (cz (pv 0)) (λ_ _ _ _ _ _=>(bW (i:=0) (show List.Nodup (["item"]:List Str) by decide +kernel))) (λ_ _ _ _ _ _=>C9 (br gn (bI J2 (pv 0) aC) bP (bx _))) (λ_ _ _ _ _ _=>(bI J2 (pv 0) aC))))),?_⟩;refine⟨Y,r,rfl,⟨_,bC.of hr1⟩,λacc cK=>gD (K:=K) (a:=r) (xs:=vs) (λi σ H2=>∃ u:Option V,σ=[u]/\H2 acc=⇑(.lst ((eZ (aP.take i)).map V.int))/\aJ H H2) ⟨none,rfl,ah,au cK _⟩ (by rintro i σ H2 _ ⟨_,_,_,s⟩;exact bC.of (s _ _ hr1)) ?_ ?_⟩
 ·rintro i x σ H2 hi ⟨u,rfl,ha,s⟩;let⟨it,ei,b,rfl,hb⟩:=hp.get hi;have step:eZ (aP.take (i+1))=eZ (aP.take i)++eZ [it]:=by rw[take_snoc ei,gj]
  have bl:↑(eZ (aP.take i))<=100000:=by
   have z:=LS (aP.take i);rw[gO]at z;lia
  cases it with
  | win n =>
   refine⟨Y,b,K,V,gV.of (s _ _ hb),V,Y,cT (λ_=>?_) (λz=>absurd (by decide) z)⟩;refine⟨Y,b,K,V,gV.of (s _ _ hb),rfl,_,ha,(by rw[cy];exact aQ ∅),Y,?_,bQ cK s (aK acc _ _)⟩;rw[ah,step,gU];rfl
  | aL p q =>
   refine⟨Y,b,K,V,gV.of (s _ _ hb),V,Y,cT (λz=>absurd z (by decide)) (λ_=>?_)⟩;refine⟨Y,?_,s⟩;rw[ha,step];show _=⇑(HO.lst ((eZ (aP.take i)++[]).map V.int));rw[ic]
 ·rintro σ H2 ⟨u,rfl,ha,s⟩;rw[hp.len,gP]at ha;exact k acc H2 ha s cK
structure LW(af:cD)(ks:List Int):Prop where
 AV:∀ x∈ks,0<=x/\x<↑af
 dn:∀ (i:Nat) (x:Int),ks[i]?=⇑x->∀ y,jf af x y->y∈ks.take i
class inductive Se
 | mk (r L:Addr) (af:cD) (ss:List Int) (_:vs=[↥r,↥L]) (_:gr H r (af.map aO)) (_:H L=⇑(.lst (ss.map V.int))) (_:↑ss<=1000) (_:↑af<=1000) (_:(∀ es∈af,↑es<=1000)) (_:fJ af) (_:sW af) (_:(∀ s∈ss,0<=s/\s<↑af)) (_ :
 ∀ (ks:List Int) (o:Addr) (H':Hp),H' o=⇑(.lst (ks.map V.int))->aJ H H'->LW af ks->(∀ s∈ss,s∈ks)->↑ks<=1000->H o=none->Q ↥o H')
def LW.snoc{af:cD}{ks:List Int}{x:Int}(h:LW af ks)(h0:0<=x)(h1:x<↑af)(hx:∀ y,jf af x y->y∈ks):LW af (ks++[x]):=by
 refine⟨λy hy=>?_,λi y hi z hz=>?_⟩
 ·rcases List.mem_append.mp hy with q|q
  ·exact h.AV y q
  ·have:y=x:=by simpa using q
   lia
 ·by_cases c:i<↑ks
  ·rw[AU c]at hi;rw[List.take_append_of_le_length ∅];exact h.dn i y hi z hz
  ·have c2:i=↑ks:=by
    rcases Nat.lt_or_ge i ↑(ks++[x]) with q|q
    ·rw[cX,qy]at q;lia
    ·rw[List.getElem?_eq_none q]at hi;cases hi
   subst c2;rw[List.getElem?_append_right (fT _),Nat.sub_self]at hi;cases hi;rw[List.take_append_of_le_length (fT _),gP];exact hx z hz
def Cn{kvs:List (eY × V)}{ks:List Int}(h:kvs.map (·.1)=ks.map Sum.inl)(x:Int):seen kvs x↔x∈ks:=by
 unfold seen;rw[← l9,List.any_eq_true];constructor
 ·rintro⟨p,hp,e⟩;have e':p.1=Sum.inl x:=of_decide_eq_true e;have:p.1∈ks.map (Sum.inl:Int->eY):=by rw[← h];exact List.mem_map_of_mem hp
  rw[e',List.mem_map]at this;let⟨y,hy,ey⟩:=this;rw[Sum.inl.inj ey]at hy;exact hy
 ·intro hx;have:(Sum.inl x:eY)∈kvs.map (·.1):=by rw[h];exact List.mem_map_of_mem hx
  let⟨p,hp,e⟩:=List.mem_map.mp this;exact⟨p,hp,decide_eq_true e⟩
structure Bel(af:cD)(rk:Int->Nat)(H:Hp)(W S:Addr)(ss:List Int)(H2:Hp)(bs ps ks:List Int)(kvs:List (eY × V)):Prop where
 hW:H2 W=⇑(.lst ((bs++ps).map V.int))
 hS:H2 S=⇑(.dK kvs)
 sm:aJ H H2
 ky:kvs.map (·.1)=ks.map Sum.inl
 tp:LW af ks
 rg:∀ x∈bs++ps,0<=x/\x<↑af
 ns:∀ x∈ps,¬ seen kvs x
 pw:ps.Pairwise λa b=>rk b<rk a
 rb:∀ (i:Nat) (x:Int),ps[i]?=⇑x->rk x+i<=40
 st:∀ s∈ss,s∈bs\/s∈ks
 kl:↑kvs+nH ↑af kvs<=↑af
 bl:↑bs<=1000
def Co{kvs:List (eY × V)}{k:eY}(v:V)(h:(cC kvs k).isSome=true):(eE kvs k v).map (·.1)=kvs.map (·.1):=by
 unfold eE;rw[if_pos (by rw[l9];exact h),List.map_map];refine List.map_congr_left λp _=>?_;show (if p.1=k then (p.1,v) else p).1=p.1
 split <;> rfl
def IB{rk:Int->Nat}{ps:List Int}(rb:∀ (i:Nat) (x:Int),ps[i]?=⇑x->rk x+i<=40):↑ps<=41:=by
 rcases qo ps with rfl|⟨p',n,rfl⟩
 ·simp
 ·rw[m6]at rb ⊢;have:=rb ↑p' n (by rw[List.getElem?_append_right (fT _),Nat.sub_self];rfl);rw[cX,qy];lia
structure Top(rk:Int->Nat)(ss bs ps ks:List Int)(kvs:List (eY × V))(A6 vU:List Int)(n:Int):Prop where
 eq:bs++ps=A6++vU++[n]
 ns:∀ x∈vU,¬ seen kvs x/\x≠n
 pw:vU.Pairwise λa b=>rk b<rk a
 rb:∀ (i:Nat) (x:Int),vU[i]?=⇑x->rk x+i<=40
 st:∀ s∈ss,s∈A6\/s=n\/s∈ks
 old:seen kvs n->A6.length+50-↑vU<↑bs+50-↑ps
 le:A6.length+50-↑vU<=↑bs+51-↑ps
 bl:A6.length<=↑bs
 up:∀ y:Int,rk y<=40->rk y<rk n->(ps++[y]).Pairwise (λa b=>rk b<rk a)/\∀ (i:Nat) (x:Int),(ps++[y])[i]?=⇑x->rk x+i<=40
def Bel.top{af:cD}{rk:Int->Nat}{H:Hp}{W S:Addr}{ss:List Int}{H2:Hp}{bs ps ks:List Int}{kvs:List (eY × V)}(B:Bel af rk H W S ss H2 bs ps ks kvs):bs++ps=[]\/∃ A6 vU n,Top rk ss bs ps ks kvs A6 vU n:=by
 have OG:∀ (qs:List Int) (y:Int),(∀ (i:Nat) (x:Int),qs[i]?=⇑x->rk x+i<=40)->rk y+↑qs<=40->∀ (i:Nat) (x:Int),(qs++[y])[i]?=⇑x->rk x+i<=40:=by
  intro qs y h1 h2 i x hx;rcases Nat.lt_or_ge i ↑qs with q|q
  ·rw[AU q]at hx;exact h1 i x hx
  ·have qi:i=↑qs:=by
    rcases Nat.lt_or_ge i ↑(qs++[y]) with w|w
    ·rw[cX,qy]at w;lia
    ·rw[List.getElem?_eq_none w]at hx;cases hx
   subst qi;rw[List.getElem?_append_right (fT _),Nat.sub_self]at hx;cases hx;exact h2
 rcases qo ps with rfl|⟨vU,n,rfl⟩
 ·rcases qo bs with rfl|⟨A6,n,rfl⟩
  ·exact .inl rfl
  ·rw[m6]at B ⊢;refine .inr ⟨A6,[],n,by simp,by simp,by simp,by simp,λs hs=>?_,λ_=>?_,?_,?_,λy h1 h2=>⟨by simp,OG [] y (by simp) (by simpa using h1)⟩⟩
   ·rcases B.st s hs with z|z
    ·rcases List.mem_append.mp z with z|z
     ·exact .inl z
     ·exact .inr (.inl (by simpa using z))
    ·exact .inr (.inr z)
   ·rw[cX,qy];simp only[qp];lia
   ·rw[cX,qy];simp only[qp];lia
   ·rw[cX,qy];lia
 ·rw[m6]at B ⊢;have pwd:=List.pairwise_append.mp B.pw;have rbn:=B.rb ↑vU n (by rw[List.getElem?_append_right (fT _),Nat.sub_self];rfl);refine .inr ⟨bs,vU,n,by rw[mL],λx hx=>⟨B.ns x (sj _ hx),λe=>?_⟩,pwd.1,λi x hx=>?_,λs hs=>(B.st s hs).elim .inl λz=>.inr (.inr z),λz=>absurd z (B.ns n (by simp)),?_,fT _,λy h1 h2=>⟨?_,OG _ y B.rb ?_⟩⟩
  ·subst e;exact Nat.lt_irrefl _ (pwd.2.2 x hx x (by simp))
  ·refine B.rb i x ?_;rw[AU]
   ·exact hx
   ·rcases Nat.lt_or_ge i ↑vU with q|q
    ·exact q
    ·rw[List.getElem?_eq_none q]at hx;cases hx
  ·rw[cX,qy];lia
  ·rw[List.pairwise_append];refine⟨B.pw,by simp,λa ha c hc=>?_⟩;have:c=y:=by simpa using hc
   subst this;rcases List.mem_append.mp ha with q|q
   ·have:=pwd.2.2 a q n (by simp);lia
   ·have:a=n:=by simpa using q
    subst this;exact h2
  ·rw[cX,qy];lia
def Uk(af:cD)(rk:Int->Nat)(H:Hp)(r L W S:Addr)(ss:List Int)(m:Nat)(σ:L2.St)(H2:Hp):Prop:=∃ (bs ps ks:List Int) (kvs:List (eY × V)) (u v:Option V),σ=[⇑↥r,⇑↥L,⇑↥S,⇑↥W,u,v]/\Bel af rk H W S ss H2 bs ps ks kvs/\m=100*nH ↑af kvs+(↑bs+50-↑ps)
theorem vq:aH ["rows","sheets","told","waiting","number","missing"] ["rows","sheets"] (aB C1):=fc
theorem FH:‹(2,11,["rows","sheets"],Se)›:=λD=>by
 refine fH D.Wj.F vq λcJ A zn s0 H vs Q E hr h=>?_;let⟨r,L,af,ss,rfl,hR,hL,hsl,cZ,hes,rS,⟨rk,hrb,wX⟩,hin,k⟩:=h;have hu:=gF hr;refine⟨_,(ao (aW (i:=2) vq.nd mh) (ao (aW (i:=3) vq.nd (eT fY rfl D.T.i6 sf (aa (pv 1) aj))) (ao (uN PassesOwn.never (lO (pv 3) (λ_=>rfl)) (ao (aW (i:=4) vq.nd (bI bw (pv 3) (gm dQ aC))) (ao (Rx (N:=["other","told"]) (i:=5) (mq (sc:=aB C1) (NX:=["rows","sheets","told","waiting","number","missing"]) (jx:=[none,some 2]) rfl rfl rfl nofun nofun rfl nofun rfl nofun) rfl vq.nd rfl rfl (cz (aI D.Wi (zY D) hr (aa (bI bw (pv 0) (pv 4)) aj))) (λ_ _ _ _ _ _=>(bW (i:=0) (show List.Nodup (["other","told"]:List Str) by decide +kernel))) (λ_ _ _ _ _ _=>C9 (zf (Cc hu (pv 0) (pv 1)))) (λ_ _ _ _ _ _=>(pv 0))) (ay (bS (lO (pv 5) (λ_=>rfl)) (ay (aV (dI qm jQ jR bT (pv 3) (aa (bI bw (pv 5) aC) aj)))) (ao (vc hu (pv 2) (pv 4) iS rfl) (ay (aV (Nr qm PySem.F.slot_list_pop PySem.F.type_list_pop Ny (pv 3)))))))))) (ay (aN (eT (Ij rfl) rfl D.T.i6 sf (aa (pv 2) aj))))))),?_⟩;intro S hS;have s1:aJ H (aM H S (.dK [])):=au hS _;refine⟨Y,L,Y,.inl (bC.of (s1 _ _ hL)),λW hW=>?_⟩;have s2:=s1.trans (au hW (.lst (ss.map V.int)))
 have Sf:H W=none:=by
  cases e:H W with
  | none=>rfl
  | some o=>exact absurd ((s1 _ _ e).symm.trans hW) (by simp)
 have Ul:W≠S:=(az ah hW).symm;refine⟨Uk af rk H r L W S ss,⟨_,ss,[],[],[],none,none,rfl,⟨(by rw[ah,ic]),au hW _ _ _ ah,s2,rfl,⟨(λx hx=>by cases hx),λi x hi=>by simp at hi⟩,(λx hx=>hin x (by simpa using hx)),by simp,by simp,by simp,(λs hs=>.inl hs),?_,hsl⟩,rfl⟩,?_⟩
 ·have:=zQ ↑af (λi=>(cC ([]:List (eY × V)) (Sum.inl (i:Int))).isNone);show 0+cnt ↑af _<=_;lia
 rintro m σ H2 ⟨bs,ps,ks,kvs,u,v,rfl,B,rfl⟩;exists Y,!((bs++ps).map V.int).isEmpty,.inl ⟨_,bC.of B.hW,rfl⟩;rcases B.top with en|⟨A6,vU,n,t⟩
 ·have e2:(!((bs++ps).map V.int).isEmpty)=false:=by rw[en];rfl
  rw[e2];refine dM ?_
  have ek:kvs.map (λp=>kV p.1)=ks.map V.int:=by
   have z:kvs.map (λp=>kV p.1)=(kvs.map (·.1)).map kV:=by rw[List.map_map];rfl
   rw[z,B.ky,List.map_map];rfl
  have kl:↑ks=↑kvs:=by
   have z:=congrArg List.length B.ky;rw[cy,cy]at z;exact z.symm
  have kll:=B.kl;refine⟨Y,S,kvs,rfl,B.hS,λl hl=>?_⟩;refine k ks l _ (by rw[ah,ek]) (B.sm.trans (au hl _)) B.tp (λs hs=>(B.st s hs).elim (λz=>?_) id) ∅ ?_
  ·rw[(List.append_eq_nil_iff.mp en).1]at z;cases z
  cases e:H l with
  | none=>rfl
  | some o=>exact absurd ((B.sm _ _ e).symm.trans hl) (by simp)
 have eW:=B.hW;rw[t.eq]at eW;rw[t.eq];refine cT (λ_=>?_) (λz=>absurd (by simp) z);refine⟨fun σ' H'=>∃ m',m'<100*nH ↑af kvs+(↑bs+50-↑ps)/\Uk af rk H r L W S ss m' σ' H',fun σ' H' z=>z,?_⟩;have an:qF ((A6++vU++[n]).map V.int) (-1)=⇑(.int n):=by rw[gU];exact eX _ _
 let⟨n0,n1⟩:=B.rg n (by rw[t.eq];simp);have tl:=t.le;have Qv:=t.bl;have pl:=IB B.rb;have pl':=IB t.rb;have bbl:=B.bl;obtain⟨es,eO⟩:∃ es,af[n.toNat]?=⇑es:=⟨_,qB ∅⟩;have WH:=hes es (oA eO);let⟨yc,Kg,pY⟩:=hR.same B.sm;let⟨vi,Dt,hI⟩:=pY.get' (i:=n.toNat) (b:=aO es) (by rw[gf,eO];rfl);let⟨b,Qo,rfl,hb,uh⟩:=id hI;have hil:=nY es []
 have vt:qF yc n=⇑↥b:=by
  have z:=dF Dt;rw[show ((n.toNat:Nat):Int)=n by lia]at z;exact z
 exists Y,Y,W,K,V,bC.of eW,an;refine⟨Y,Y,r,K,V,bC.of Kg,vt,b,aO es,rfl,hI,?_,λz H4 hz s4 nz=>?_⟩
 ·show ↑(es.foldl bh [])<=_;simp only[qp]at hil;lia
 rw[iM]at hz;have aeB:↑(cM es)<=↑es:=List.length_filterMap_le _ es;have hS4:=s4 _ _ B.hS;have hW4:=s4 _ _ eW;refine⟨z,rfl,⟨_,bC.of hz⟩,λacc cK=>gD (K:=K) (a:=z) (xs:=(cM es).map V.int) (λi σ H5=>∃ u:Option V,σ=[u,⇑↥S]/\H5 acc=⇑(.lst ((((cM es).take i).filter (λy=>(cC kvs (Sum.inl y)).isNone)).map V.int))/\aJ H4 H5) ⟨none,rfl,ah,au cK _⟩ (by rintro i σ H5 _ ⟨_,_,_,s5⟩;exact bC.of (s5 _ _ hz)) ?_ ?_⟩
 ·rintro i x σ H5 hi ⟨u,rfl,h5,s5⟩;rw[gf]at hi;let⟨y,ey,rfl⟩:=Option.map_eq_some_iff.mp hi;have st:=take_snoc ey
  have bl:↑(((cM es).take i).filter (λy=>(cC kvs (Sum.inl y)).isNone))<=1000:=by
   have z:=List.length_filter_le (λy=>(cC kvs (Sum.inl y)).isNone) ((cM es).take i);rw[gO]at z;lia
  exists Y,Y,S,Y,jw.k (k:=Sum.inl y) (s5 _ _ hS4),Y
  cases ev:cC kvs (Sum.inl y) with
  | none =>
   refine ji ⟨Y,_,h5,(by rw[cy];exact aQ ∅),Y,?_,bQ cK s5 (aK acc _ _)⟩;rw[ah,st,List.filter_append,List.filter_cons_of_pos (p:=λy=>(cC kvs (Sum.inl y)).isNone) (by rw[ev];rfl),gU];rfl
  | some o =>
   refine dM ⟨Y,?_,s5⟩;rw[st,List.filter_append,List.filter_cons_of_neg (p:=λy=>(cC kvs (Sum.inl y)).isNone) (by rw[ev];exact gE),List.filter_nil,ic];exact h5
 rintro σ H5 ⟨u,rfl,h5,s5⟩;rw[cy,gP]at h5;have hS5:=s5 _ _ hS4;have hW5:=s5 _ _ hW4;have sm5:=B.sm.trans (s4.trans s5);have kll:=B.kl;exists Y,_,.inl ⟨_,bC.of h5,rfl⟩
 cases em:(cM es).filter (λy=>(cC kvs (Sum.inl y)).isNone) with
 | nil =>
  refine dM ?_
  have aeE:∀ y,jf af n y->y∈ks:=by
   rintro y ⟨_,rK,he',hy⟩;rw[eO]at he';cases he';rw[← Cn B.ky];have z:=List.filter_eq_nil_iff.mp em y hy;unfold seen
   cases q:cC kvs (Sum.inl y) with
   | none=>rw[q]at z;exact absurd rfl z
   | some o=>rfl
  refine⟨Y,Y,S,Y,Dg.k (k:=Sum.inl n) hS5 (aQ ∅),?_⟩;have Qp:(aM H5 S (.dK (eE kvs (Sum.inl n) (.bl true)))) W=⇑(.lst ((A6++vU++[n]).map V.int)):=by rw[aG Ul];exact hW5
  refine⟨Y,.inl ⟨rfl,_,bC.of Qp⟩,W,_,.int n,V,Qp,(by simp),?_⟩;have ee:((A6++vU++[n]).map V.int).dropLast=(A6++vU).map V.int:=by rw[gU (l₁:=A6++vU),List.map_singleton,List.dropLast_concat]
  rw[ee];have rg':∀ x∈A6++vU,0<=x/\x<↑af:=λx hx=>B.rg x (by rw[t.eq];exact sj _ hx)
  cases en:cC kvs (Sum.inl n) with
  | none =>
   have mp:=Ft (n:=↑af) (.bl true) n0 n1 en;refine⟨100*nH ↑af (eE kvs (Sum.inl n) (.bl true))+(A6.length+50-↑vU),Q,A6,vU,ks++[n],eE kvs (Sum.inl n) (.bl true),P,rfl,⟨ah,(by rw[aG Ul.symm,ah]),bQ Sf (bQ hS sm5 (aK S _ _)) (aK W _ _),?_,B.tp.snoc n0 n1 aeE,rg',λx hx=>?_,t.pw,t.rb,λs hs=>?_,?_,Q⟩,rfl⟩
   ·rw[zL _ en,gU,B.ky,gU];rfl
   ·intro q;rcases (qT _).mp q with e|e
    ·exact (t.ns x hx).2 e
    ·exact (t.ns x hx).1 e
   ·rcases t.st s hs with q|q|q
    ·exact .inl q
    ·exact .inr (by rw[q];simp)
    ·exact .inr (sj _ q)
   ·rw[zL _ en,cX,qy]at *;lia
  | some o =>
   have sn:seen kvs n:=by unfold seen;rw[en];rfl
   have so:=t.old sn
   have sp:∀ x,seen (eE kvs (Sum.inl n) (.bl true)) x↔seen kvs x:=λx=>by
    rw[qT];exact⟨λz=>z.elim (λe=>by rw[e];exact sn) id,.inr⟩
   have ms:nH ↑af (eE kvs (Sum.inl n) (.bl true))=nH ↑af kvs:=by
    refine Oi _ λi _=>?_;have z:=sp (i:Int);unfold seen at z
    cases q1:cC (eE kvs (Sum.inl n) (.bl true)) (Sum.inl (i:Int)) with
    | none =>
     cases q2:cC kvs (Sum.inl (i:Int)) with
     | none=>rfl
     | some o2=>rw[q1,q2]at z;exact absurd (z.mpr rfl) gE
    | some o1 =>
     cases q2:cC kvs (Sum.inl (i:Int)) with
     | none=>rw[q1,q2]at z;exact absurd (z.mp rfl) gE
     | some o2=>rfl
   have kn:n∈ks:=(Cn B.ky n).mp sn;refine⟨100*nH ↑af (eE kvs (Sum.inl n) (.bl true))+(A6.length+50-↑vU),by rw[ms];lia,A6,vU,ks,eE kvs (Sum.inl n) (.bl true),P,rfl,⟨ah,(by rw[aG Ul.symm,ah]),bQ Sf (bQ hS sm5 (aK S _ _)) (aK W _ _),?_,B.tp,rg',λx hx q=>(t.ns x hx).1 ((sp x).mp q),t.pw,t.rb,λs hs=>?_,?_,Q⟩,rfl⟩
   ·rw[Co _ (by rw[en];rfl),B.ky]
   ·rcases t.st s hs with q|q|q
    ·exact .inl q
    ·exact .inr (by rw[q];exact kn)
    ·exact .inr q
   ·have z:=congrArg List.length (Co (kvs:=kvs) (k:=Sum.inl n) (.bl true) (by rw[en];rfl));rw[cy,cy]at z;rw[z,ms];exact kll
 | cons y ts =>
  refine ji ?_;rw[em]at h5;have ym:y∈(cM es).filter (λy=>(cC kvs (Sum.inl y)).isNone):=by rw[em];simp
  let⟨yw,yn⟩:=List.mem_filter.mp ym;have G7:jf af n y:=⟨n0,es,eO,yw⟩;let⟨y0,y1⟩:=rS.Fq G7;let⟨up1,up2⟩:=t.up y (hrb y) (wX n y G7);have wl:=congrArg List.length t.eq;rw[cX]at wl;refine⟨Y,.inl ⟨rfl,_,bC.of hW5⟩,Y,acc,K,V,bC.of h5,dF (xs:=V.int y::ts.map V.int) (j:=0) rfl,W,Z,hW5,(by rw[cy,← wl];exact aQ ∅),?_⟩;have pl2:=IB up2;rw[cX,qy]at pl2;refine⟨100*nH ↑af kvs+(↑bs+50-↑(ps++[y])),?_,bs,ps++[y],ks,kvs,P,rfl,⟨(by rw[ah,← mL,t.eq,gU (l₁:=A6++vU++[n])];rfl),(by rw[aG Ul.symm];exact hS5),bQ Sf sm5 (aK W _ _),B.ky,B.tp,λx hx=>?_,λx hx=>?_,up1,up2,B.st,kll,bbl⟩,rfl⟩
  ·rw[cX,qy];lia
  ·rw[← mL]at hx;rcases List.mem_append.mp hx with q|q
   ·exact B.rg x q
   ·have:x=y:=by simpa using q
    subst this;exact⟨y0,y1⟩
  ·rcases List.mem_append.mp hx with q|q
   ·exact B.ns x q
   ·have:x=y:=by simpa using q
    subst this;intro q;unfold seen at q
    cases w:cC kvs (Sum.inl x) with
    | none=>rw[w]at q;cases q
    | some o=>rw[w]at yn;cases yn
structure Bfs(af:cD)(H:Hp)(W S:Addr)(s g:Int)(OH:Int->Prop)(H2:Hp)(vs:List V)(wl:cD)(kvs:List (eY × V)):Prop where
 hW:H2 W=⇑(.lst vs)
 hl:bV (fP (λa=>a=W\/a=S) H2) vs wl
 hS:H2 S=⇑(.dK kvs)
 sm:aJ H H2
 wk:∀ w∈wl,Walk (jf af) s w/\↑w<=↑kvs+1/\∃ e,w.getLast?=⇑e/\0<=e/\e<↑af
 kl:↑kvs+nH ↑af kvs<=↑af
 cl:∀ x,(x=s\/seen kvs x)->(∃ w∈wl,w.getLast?=⇑x)\/OH x\/∀ y,jf af x y->y≠g/\seen kvs y
class inductive Um
 | mk (r:Addr) (af:cD) (s g:Int) (_:vs=[↥r,.int s,.int g]) (_:gr H r (af.map aO)) (_:↑af<=1000) (_:(∀ es∈af,↑es<=1000)) (_:fJ af) (_:0<=s) (_:s<↑af) (_:(∀ (ja:List Int) (o:Addr) (H':Hp),H' o=⇑(.lst (ja.map V.int))->aJ H H'->Walk (jf af) s ja->2<=↑ja->↑ja<=2000->ja.getLast?=⇑g->Q ↥o H')) (_:(¬ Reach (jf af) s g->∀ H',aJ H H'->Q .fV H'))
theorem jd:aH ["rows","start","goal","ways","seen","way","number"] ["rows","start","goal"] (aB oR):=fc
def muW(n:Nat)(W S:Addr):L2.St->Hp->Nat:=λ_ H=>match H W,H S with
 | some (.lst vs),some (.dK kvs)=>2*nH n kvs+↑vs
 | _,_=>0
def OI{n:Nat}{W S:Addr}{σ:L2.St}{H:Hp}{vs:List V}{kvs:List (eY × V)}(h1:H W=⇑(.lst vs))(h2:H S=⇑(.dK kvs)):muW n W S σ H=2*nH n kvs+↑vs:=by
 unfold muW;rw[h1,h2]
def Uo(af:cD)(H:Hp)(r W S:Addr)(s g:Int)(σ:L2.St)(H2:Hp):Prop:=∃ (vs:List V) (wl:cD) (kvs:List (eY × V)) (u v:Option V),σ=[⇑↥r,⇑(.int s),⇑(.int g),⇑↥W,⇑↥S,u,v]/\Bfs af H W S s g (λ_=>False) H2 vs wl kvs/\↑vs+2*nH ↑af kvs<=2*↑af+1
theorem zZ:‹(2,12,["rows","start","goal"],Um)›:=λD=>by
 refine fH D.ZP.F jd λcJ A zn s0 H vs Q E hr h=>?_;let⟨r,af,s,g,rfl,hR,cZ,hes,rS,h0,h1,kY,kN⟩:=h;have hu:=gF hr;refine⟨_,(ao (aW (i:=3) jd.nd (bO (aa (bO (aa (pv 1) aj)) aj))) (ao (aW (i:=4) jd.nd mh) (ao (uN PassesOwn.never (lO (pv 3) (λ_=>rfl)) (ao (aW (i:=5) jd.nd (dI qm PySem.F.slot_list_pop PySem.F.type_list_pop Nz (pv 3) (aa aC aj))) (ay (dN PassesOwn.never rfl (cz (aI D.Wi (zY D) hr (aa (bI bw (pv 0) (bI bw (pv 5) (gm dQ aC))) aj))) (bW (i:=6) jd.nd) (ao (bS (br gn (pv 6) (pv 2) (bx _)) (ay (aN (bJ jC (pv 5) (bO (aa (pv 2) aj))))) bG) (ay (bS (zf (Cc hu (pv 6) (pv 4))) (ao (vc hu (pv 4) (pv 6) iS rfl) (ay (aV (dI qm jQ jR bT (pv 3) (aa (bJ jC (pv 5) (bO (aa (pv 6) aj))) aj))))) bG))))))) (ay (aN Ho))))),?_⟩;refine⟨Y,jY,λa0 G3=>⟨jY,λW hW=>?_⟩⟩;intro S hS;have s1:aJ H (aM H a0 (.lst [.int s])):=au G3 _;have s2:=s1.trans (au hW (.lst [↥a0]));have s3:=s2.trans (au hS (.dK []))
 have Sf:H W=none:=by
  cases e:H W with
  | none=>rfl
  | some o=>exact absurd ((s1 _ _ e).symm.trans hW) (by simp)
 have H0S:H S=none:=by
  cases e:H S with
  | none=>rfl
  | some o=>exact absurd ((s2 _ _ e).symm.trans hS) (by simp)
 have Ul:W≠S:=az ah hS;have n0W:a0≠W:=az ah hW;have n0S:a0≠S:=az (au hW _ _ _ ah) hS;exists λm σ H2=>m=muW ↑af W S σ H2/\Uo af H r W S s g σ H2,⟨Y,?_⟩
 ·have cl:=zQ ↑af (λi=>(cC ([]:List (eY × V)) (Sum.inl (i:Int))).isNone);refine⟨[↥a0],[[s]],[],none,none,rfl,⟨au hS _ _ _ ah,.cons ⟨a0,rfl,(λz=>z.elim n0W n0S),au hS _ _ _ (au hW _ _ _ ah)⟩ .nil,ah,s3,?_,?_,?_⟩,?_⟩
  ·intro w hw;have:w=[s]:=by simpa using hw
   subst this;exact⟨Walk.one _ _,by simp,s,rfl,h0,h1⟩
  ·show 0+nH ↑af []<=↑af;unfold nH;lia
  ·rintro x (rfl|hx)
   ·exact .inl ⟨[x],by simp,rfl⟩
   ·cases hx
  ·show 1+2*nH ↑af []<=_;unfold nH;lia
 ·rintro m σ H2 ⟨rfl,vs,wl,kvs,u,v,rfl,B,hml⟩;rw[OI B.hW B.hS];exists Y,!vs.isEmpty,.inl ⟨vs,bC.of B.hW,rfl⟩
  cases vs with
  | nil =>
   refine dM (kN (λWI=>?_) H2 B.sm);have Y9:=B.hl;cases Y9
   have zt:∀ x,(x=s\/seen kvs x)->∀ y,jf af x y->y≠g/\seen kvs y:=λx hx=>by
    rcases B.cl x hx with ⟨w,hw,_⟩|z|z
    ·cases hw
    ·exact z.elim
    ·exact z
   exact (Reach.closed (S:=λy=>y≠g/\seen kvs y) (zt s (.inl rfl)) (λx y hx=>zt x (.inr hx.2) y) WI).1 rfl
  | cons v0 Di =>
   refine ji ⟨fun σ' H'=>Uo af H r W S s g σ' H'/\muW ↑af W S σ' H'<2*nH ↑af kvs+↑(v0::Di),fun σ' H' ⟨p,l⟩=>⟨_,l,rfl,p⟩,?_⟩;let⟨hW2,A0,VT,sm2,wk2,kl2,cl2⟩:=id B
   cases A0 with
   | @cons _ w0 _ X8 hv0 aeJ =>
   let⟨wa,rfl,nwa,hwa⟩:=id hv0;let⟨wkw,wlw,e,hle,e0,e1⟩:=wk2 w0 (by simp)
   have wal:∃ w1,w0=w1++[e]:=by
    rw[List.getLast?_eq_some_iff]at hle;exact hle
   let⟨w1,rfl⟩:=wal;obtain⟨es,eO⟩:∃ es,af[e.toNat]?=⇑es:=⟨_,qB ∅⟩;have aeK:es∈af:=oA eO;have WH:=hes es aeK;exists Y,.inl ⟨rfl,_,bC.of hW2⟩,W,_,0,0,↥wa,V,hW2,E,E,(by simp[seqIndex?]),rfl;have ee:(V.ref wa::Di).eraseIdx 0=Di:=rfl;rw[ee];have aaL:∀ {v:V} {ns:List Int},fP (λa=>a=W\/a=S) H2 v ns->fP (λa=>a=W\/a=S) (aM H2 W (.lst Di)) v ns:=λh=>h.at _ (.inl rfl);have OJ:aJ H (aM H2 W (.lst Di)):=bQ Sf sm2 (aK W _ _);let⟨yc,G5,pY⟩:=hR.same OJ;let⟨vi,Dt,hI⟩:=pY.get' (i:=e.toNat) (b:=aO es) (by rw[gf,eO];rfl);let⟨b,Qo,rfl,hb,uh⟩:=id hI
   have aeL:(aM H2 W (.lst Di)) wa=⇑(.lst (w1.map V.int++[.int e])):=by
    rw[aG (λz=>nwa (.inl z)),hwa,gU];rfl
   have hil:=nY es [];refine⟨Y,Y,Y,wa,K,V,bC.of aeL,eX _ _,r,K,V,bC.of G5,?_,b,aO es,rfl,hI,?_,λz H4 hz s4 nz=>?_⟩
   ·have z:=dF Dt;rw[show ((e.toNat:Nat):Int)=e by lia]at z;exact z
   ·show ↑(es.foldl bh [])<=_;simp only[qp]at hil;lia
   rw[iM]at hz;have hW3:(aM H2 W (.lst Di)) W=⇑(.lst Di):=ah;have LX:(aM H2 W (.lst Di)) S=⇑(.dK kvs):=by rw[aG Ul.symm];exact VT
   have nzW:z≠W:=(az hW3 nz).symm;have nzS:z≠S:=(az LX nz).symm;have aeB:↑(cM es)<=↑es:=List.length_filterMap_le _ es;refine⟨z,rfl,⟨_,bC.of hz⟩,dz (K:=K) (a:=z) (xs:=(cM es).map V.int) (λi σ H5=>∃ (OL:List V) (Up:cD) (jZ:List (eY × V)) (v:Option V),σ=[⇑↥r,⇑(.int s),⇑(.int g),⇑↥W,⇑↥S,⇑↥wa,v]/\ Bfs af H W S s g (λx=>x=e) H5 OL Up jZ/\fP (λa=>a=W\/a=S) H5 ↥wa (w1++[e])/\fP (λa=>a=W\/a=S) H5 ↥z (cM es)/\(∀ y∈(cM es).take i,y≠g/\seen jZ y)/\OL.length+2*nH ↑af jZ<=Di.length+2*nH ↑af kvs/\↑kvs<=↑jZ) ?_ ?_ ?_ ?_⟩
   ·refine⟨Di,X8,kvs,Y,⟨s4 _ _ hW3,aeJ.mono λ_ _ h=>(aaL h).same s4,s4 _ _ LX,OJ.trans s4,λw hw=>wk2 w (oE _ hw),kl2,λx hx=>?_⟩,(aaL hv0).same s4,⟨z,rfl,λq=>q.elim nzW nzS,hz⟩,(λy hy=>by simp at hy),fT _,fT _⟩;rcases cl2 x hx with ⟨w,hw,hwx⟩|q|q
    ·rcases List.mem_cons.mp hw with rfl|Kh
     ·refine .inr (.inl ?_);rw[hle]at hwx;exact (qC hwx).symm
     ·exact .inl ⟨w,Kh,hwx⟩
    ·exact q.elim
    ·exact .inr (.inr q)
   ·rintro i σ H5 _ ⟨_,_,_,_,_,_,_,⟨a,ea,_,ha⟩,_⟩;cases ea;exact bC.of ha
   ·rintro i x σ H5 hi ⟨OL,Up,jZ,v,rfl,B5,Sg,hz5,pZ,X9,hk5⟩;rw[gf]at hi;let⟨y,ey,rfl⟩:=Option.map_eq_some_iff.mp hi;have G7:jf af e y:=⟨e0,es,eO,oA ey⟩;let⟨y0,y1⟩:=rS.Fq G7;let⟨wa',ewa,aeO,Uq⟩:=id Sg;cases ewa;have wl0:↑(w1++[e])<=2000:=by have:=B5.kl;lia
    refine⟨Y,Y,rfl,Y,cT (λc=>?_) (λc=>?_)⟩
    ·have eg:y=g:=V.int.inj (of_decide_eq_true c);subst eg;refine⟨Y,Y,jY,λb1 FD=>⟨wa,b1,Z,au FD _ _ _ Uq,ah,gQ (aQ (by rw[cy];simp at wl0 ⊢;lia)),λo ho=>?_⟩⟩;refine kY (w1++[e]++[y]) o _ ?_ ((B5.sm.trans (au FD _)).trans (au ho _)) (wkw.snoc hle G7) (by simp) (by have:=B5.kl;rw[cX,qy];lia) (by simp);rw[ah,gU (l₁:=w1++[e])];rfl
    ·have eg:¬ y=g:=λq=>c (decide_eq_true (congrArg V.int q));exists Y,Y,S,Y,jw.k (k:=Sum.inl y) B5.hS,Y
     have Ur:∀ Si:List (eY × V),(∀ x,seen jZ x->seen Si x)->seen Si y->∀ y'∈(cM es).take (i+1),y'≠g/\seen Si y':=λSi aaM hy y' Lc=>by
      rw[take_snoc ey]at Lc;rcases List.mem_append.mp Lc with q|q
      ·exact⟨(pZ y' q).1,aaM _ (pZ y' q).2⟩
      ·have:y'=y:=by simpa using q
       subst this;exact⟨eg,hy⟩
     cases ev:cC jZ (Sum.inl y) with
     | some o1 =>
      refine dM ?_;exact⟨OL,Up,jZ,Y,B5,Sg,hz5,Ur jZ (λ_ q=>q) (by unfold seen;rw[ev];rfl),X9,hk5⟩
     | none =>
      refine ji ?_;have kll:=B5.kl;refine⟨Y,Y,S,Y,Dg.k (k:=Sum.inl y) B5.hS (aQ ∅),?_⟩;have e6:∀ {v:V} {ns:List Int},fP (λa=>a=W\/a=S) H5 v ns->fP (λa=>a=W\/a=S) (aM H5 S (.dK (eE jZ (Sum.inl y) (.bl true)))) v ns:=λh=>h.at _ (.inr rfl);have s6:aJ H (aM H5 S (.dK (eE jZ (Sum.inl y) (.bl true)))):=bQ H0S B5.sm (aK S _ _);have Qp:(aM H5 S (.dK (eE jZ (Sum.inl y) (.bl true)))) W=⇑(.lst OL):=by rw[aG Ul];exact B5.hW
      have aaN:(aM H5 S (.dK (eE jZ (Sum.inl y) (.bl true)))) wa=⇑(.lst ((w1++[e]).map V.int)):=by rw[aG (λq=>aeO (.inr q))];exact Uq
      have WJ:(aM H5 S (.dK (eE jZ (Sum.inl y) (.bl true)))) S=⇑(.dK (eE jZ (Sum.inl y) (.bl true))):=ah;generalize aM H5 S (.dK (eE jZ (Sum.inl y) (.bl true)))=H6 at e6 s6 Qp aaN WJ;have vl:OL.length<sizeLine:=aQ (by simp only[kX]at hml;lia);refine⟨Y,.inl ⟨rfl,_,bC.of Qp⟩,Y,Y,jY,λb1 FD=>⟨wa,b1,Z,au FD _ _ _ aaN,ah,gQ (aQ (by rw[cy];simp at wl0 ⊢;lia)),λo ho=>⟨W,Z,au ho _ _ _ (au FD _ _ _ Qp),vl,?_⟩⟩⟩;have s7:aJ H6 (aM H6 b1 (.lst [.int y])):=au FD _;have s8:=s7.trans (au ho (.lst ((w1++[e]).map V.int++[.int y])));have noW:o≠W:=(az (s7 _ _ Qp) ho).symm;have noS:o≠S:=(az (s7 _ _ WJ) ho).symm;have e9:∀ {v:V} {ns:List Int},fP (λa=>a=W\/a=S) H5 v ns->fP (λa=>a=W\/a=S) (aM (aM (aM H6 b1 (.lst [.int y])) o (.lst ((w1++[e]).map V.int++[.int y]))) W (.lst (OL++[↥o]))) v ns:=λh=>((e6 h).same s8).at _ (.inl rfl);have mp:=Ft (n:=↑af) (.bl true) y0 y1 ev;have pl:↑(eE jZ (Sum.inl y) (.bl true))=↑jZ+1:=by rw[zL _ ev];simp
      have mono:∀ x,seen jZ x->seen (eE jZ (Sum.inl y) (.bl true)) x:=λx q=>(qT _).mpr (.inr q);have sy:seen (eE jZ (Sum.inl y) (.bl true)) y:=(qT _).mpr (.inl rfl);exists OL++[↥o],Up++[w1++[e]++[y]],eE jZ (Sum.inl y) (.bl true),Y,⟨ah,bV.snoc (B5.hl.mono λ_ _ h=>e9 h) ⟨o,rfl,λq=>q.elim noW noS,?_⟩,?_,bQ Sf (s6.trans s8) (aK W _ _),?_,?_,?_⟩,e9 Sg,e9 hz5,Ur _ mono sy,?_
      ·rw[aG noW,ah,gU (l₁:=w1++[e])];rfl
      ·rw[aG Ul.symm];exact s8 _ _ WJ
      ·intro w hw;rcases List.mem_append.mp hw with q|q
       ·let⟨q1,q2,q3⟩:=B5.wk w q;exact⟨q1,Q,q3⟩
       ·have:w=w1++[e]++[y]:=by simpa using q
        subst this;refine⟨wkw.snoc hle G7,?_,y,by simp,y0,y1⟩;rw[cX,qy,pl];lia
      ·lia
      ·intro x hx
       have old:(x=s\/seen jZ x)->(∃ w∈Up++[w1++[e]++[y]],w.getLast?=⇑x)\/x=e\/∀ y_1,jf af x y_1->y_1≠g/\seen (eE jZ (Sum.inl y) (.bl true)) y_1:=λq=>by
        rcases B5.cl x q with ⟨w,hw,hl⟩|q|q
        ·exact .inl ⟨w,sj _ hw,hl⟩
        ·exact .inr (.inl q)
        ·exact .inr (.inr λy' Lc=>⟨(q y' Lc).1,mono _ (q y' Lc).2⟩)
       rcases hx with q|q
       ·exact old (.inl q)
       ·rcases (qT _).mp q with rfl|q'
        ·exact .inl ⟨w1++[e]++[x],by simp,by simp⟩
        ·exact old (.inr q')
      ·rw[cX,qy];lia
      ·lia
   ·rintro σ H5 ⟨OL,Up,jZ,v,rfl,B5,Sg,hz5,pZ,X9,hk5⟩;rw[cy,gP]at pZ
    have B6:Bfs af H W S s g (λ_=>False) H5 OL Up jZ:=⟨B5.hW,B5.hl,B5.hS,B5.sm,B5.wk,B5.kl,λx hx=>by
     rcases B5.cl x hx with q|rfl|q
     ·exact .inl q
     ·refine .inr (.inr λy hy=>pZ y ?_);let⟨_,rK,he',Lc⟩:=hy;rw[eO]at he';cases he';exact Lc
     ·exact .inr (.inr q)⟩
    simp only[kX]at hml;exists ⟨OL,Up,jZ,P,rfl,B6,Q⟩;rw[OI B6.hW B6.hS,kX];lia
class inductive WK
 | mk (r:Addr) (s:Int) (_:vs=[↥r,.int s]) (_:Um [↥r,.int s,.int s] H Q E)
theorem WL:aH ["rows","sheet"] ["rows","sheet"] (aB NJ):=fc
theorem Sj:‹(3,13,["rows","sheet"],WK)›:=λD=>by
 specialize fH D.ZQ.F WL;let⟨r,s,rfl,h⟩:=h;exists _,(ay (aN (aI D.ZP (zZ D) hr (aa (pv 0) (aa (pv 1) (aa (pv 1) aj))))));exists Y,Y,Y;let⟨r',af,s',g,e,h1,h2,h3,h4,h5,h6,kY,kN⟩:=h;cases e;exact⟨r,af,s,s,rfl,h1,h2,h3,h4,h5,h6,kY,kN⟩
def eG(f:Int->Int)(es:List Int):Int:=(es.map λe=>if e<0 then 1+f (-1-e) else 1).sum
def Du(f:Int->Int):aR->Int
 | .win n=>1+f n
 | .aL a b=>b-a
def FI(f:Int->Int)(aP:List aR):Int:=(aP.map (Du f)).sum
def mw(f:Int->Int)(a b:List aR):FI f (a++b)=FI f a+FI f b:=by unfold FI;rw[gU,List.sum_append]
def OM(f:Int->Int)(t:List aR)(e:Int):FI f (bh t e)=FI f t+(if e<0 then 1+f (-1-e) else 1):=by
 unfold bh;by_cases h:e<0
 ·rw[if_pos h,if_pos h,mw];simp[FI,Du]
 ·rw[if_neg h,if_neg h];rcases qo t with rfl|⟨t',l,rfl⟩
  ·simp[FI,Du];lia
  ·rw[m6,uK]
   cases l with
   | win n =>
    show FI f (t'++[aR.win n]++[.aL e (e+1)])=_;rw[mw];simp[FI,Du];lia
   | aL a b =>
    show FI f (if b=e then (t'++[aR.aL a b]).dropLast++[.aL a (e+1)] else (t'++[aR.aL a b])++[.aL e (e+1)])=_;by_cases hb:b=e
    ·rw[if_pos hb,List.dropLast_concat,mw,mw];simp[FI,Du];lia
    ·rw[if_neg hb,mw];simp[FI,Du];lia
def LY(f:Int->Int)(es:List Int):FI f (aO es)=eG f es:=by
 have z:∀ t:List aR,FI f (es.foldl bh t)=FI f t+eG f es:=by
  induction es with
  | nil=>intro t;simp[eG]
  | cons e es ih =>
   intro t;rw[m7,ih,OM];unfold eG;rw[jy,List.sum_cons];lia
 have:=z [];unfold aO;rw[this];simp[FI]
def Weighs(af:cD)(f:Int->Int):Prop:=∀ (x:Int) (es:List Int),0<=x->af[x.toNat]?=⇑es->f x=eG f es
def wF(af:cD):Nat->Int->Int
 | 0,_=>0
 | k+1,x=>match af[x.toNat]? with
  | some es=>eG (wF af k) es
  | none=>0
def ux{f g:Int->Int}{es:List Int}(h:∀ y∈cM es,f y=g y):eG f es=eG g es:=by
 unfold eG;congr 1;refine List.map_congr_left λe he=>?_;by_cases c:e<0
 ·rw[if_pos c,if_pos c,h (-1-e) (bu.mpr ⟨Q,by rw[show -1-(-1-e)=e by lia];exact he⟩)]
 ·rw[if_neg c,if_neg c]
def wY{af:cD}(h:sW af):∃ f,Weighs af f:=by
 let⟨rk,hb,hd⟩:=h
 have key:∀ (k:Nat) (x:Int),0<=x->rk x<k->wF af k x=wF af (k+1) x:=by
  intro k
  induction k with
  | zero=>intro x _ h;lia
  | succ k ih =>
   intro x x0 hx
   cases e:af[x.toNat]? with
   | none=>simp[wF,e]
   | some es =>
    have e1:wF af (k+1) x=eG (wF af k) es:=by simp[wF,e]
    have e2:wF af (k+1+1) x=eG (wF af (k+1)) es:=by
     show (match af[x.toNat]? with|some es=>eG (wF af (k+1)) es|none=>0)=_;rw[e]
    rw[e1,e2];refine ux λy hy=>ih y (bu.mp hy).1 ?_;have:=hd x y ⟨x0,es,e,hy⟩;lia
 refine⟨wF af 41,λx es x0 he=>?_⟩;rw[key 41 x x0 (by have:=hb x;lia)];show (match af[x.toNat]? with|some es=>eG (wF af 41) es|none=>0)=_;rw[he]
class inductive aeQ
 | mk (v:V) (it:aR) (S:Addr) (kvs:List (eY × V)) (f:Int->Int) (_:vs=[v,↥S]) (_:cH H v it) (_:H S=⇑(.dK kvs)) (_:(∀ n,it=.win n->cC kvs (Sum.inl n)=⇑(.int (f n)))) (_:Q (.int (Du f it)) H)
theorem A7:aH ["item","weights"] ["item","weights"] (aB oS):=fc
theorem Aa:‹(1,14,["item","weights"],aeQ)›:=λD=>by
 specialize fH D.ZR.F A7;let⟨v,it,S,kvs,f,rfl,⟨a,rfl,ha⟩,hS,hw,k⟩:=h;have hu:=gF hr;exists _,(ao (bS (br gn (bI dh (pv 0) aC) bP (bx _)) (ay (aN (bJ eU aC (gJ hu (pv 1) (bI dh (pv 0) aC))))) bG) (ay (aN (bJ cS (bI dh (pv 0) aC) (bI dh (pv 0) aC)))))
 cases it with
 | win n =>
  refine⟨Y,a,K,V,gV.of ha,V,Y,cT (λ_=>?_) (λz=>absurd (by decide) z)⟩;have z:=jw.k (k:=Sum.inl n) hS;rw[hw n rfl]at z;exact⟨Y,Y,a,K,V,gV.of ha,rfl,S,Y,z,Z,k⟩
 | aL p q =>
  refine⟨Y,a,K,V,gV.of ha,V,Y,cT (λz=>absurd z (by decide)) (λ_=>?_)⟩;exact⟨Y,a,K,V,gV.of ha,rfl,Y,a,K,V,gV.of ha,rfl,Z,k⟩
class inductive IC
 | mk (r L:Addr) (af:cD) (ss:List Int) (f:Int->Int) (_:vs=[↥r,↥L]) (_:gr H r (af.map aO)) (_:H L=⇑(.lst (ss.map V.int))) (_:↑ss<=1000) (_:↑af<=1000) (_:(∀ es∈af,↑es<=1000)) (_:fJ af) (_:sW af) (_:(∀ s∈ss,0<=s/\s<↑af)) (_:Weighs af f) (_ :
 ∀ (S:Addr) (kvs:List (eY × V)) (H':Hp),H' S=⇑(.dK kvs)->(∀ s∈ss,cC kvs (Sum.inl s)=⇑(.int (f s)))->aJ H H'->H S=none->Q ↥S H')
theorem kT:aH ["rows","sheets","weights","number"] ["rows","sheets"] (aB jD):=fc
theorem nZ:‹(3,15,["rows","sheets"],IC)›:=λD=>by
 refine fH D.Wk.F kT λcJ A zn s0 H vs Q E hr h=>?_;let⟨r,L,af,ss,f,rfl,hR,hL,hsl,cZ,hes,rS,wX,hin,hf,k⟩:=h;have hu:=gF hr;refine⟨_,(ao (aW (i:=2) kT.nd mh) (ao (dN PassesOwn.never rfl (cz (aI D.Wj (FH D) hr (aa (pv 0) (aa (pv 1) aj)))) (bW (i:=3) kT.nd) (ay (vc hu (pv 2) (pv 3) (cu (E1 rfl) rfl D.T.Uj PyProof.Rows.boot_sum (aa (gI (N:=["item","weights"]) (mq (sc:=aB jD) (NX:=["rows","sheets","weights","number"]) (jx:=[none,some 2]) rfl rfl rfl nofun nofun rfl nofun rfl nofun) rfl (cz (bI bw (pv 0) (pv 3))) (λ_ _ _ _ _ _=>(bW (i:=0) (show List.Nodup (["item","weights"]:List Str) by decide +kernel))) (λ_ _ _ _ _ _=>gX) (λ_ _ _ _ _ _=>(aI D.ZR (Aa D) hr (aa (pv 0) (aa (pv 1) aj))))) aj)) rfl))) (ay (aN (pv 2))))),?_⟩;intro S hS;have s1:aJ H (aM H S (.dK [])):=au hS _;refine⟨Y,Y,r,L,af,ss,rfl,hR.same s1,s1 _ _ hL,hsl,cZ,hes,rS,wX,hin,λks o H2 ho s2 tp sk kl Nl=>?_⟩;have VT:=s2 _ _ (ah (H:=H) (a:=S) (o:=.dK []));have noS:o≠S:=(az ah Nl).symm;refine⟨o,rfl,⟨_,bC.of ho⟩,dz (K:=K) (a:=o) (xs:=ks.map V.int) (λi σ H3=>∃ (kvs:List (eY × V)) (u:Option V),σ=[⇑↥r,⇑↥L,⇑↥S,u]/\H3 S=⇑(.dK kvs)/\(∀ y∈ks.take i,cC kvs (Sum.inl y)=⇑(.int (f y)))/\↑kvs<=i/\(∀ a ob,a≠S->H2 a=⇑ob->H3 a=⇑ob)) ⟨[],none,rfl,VT,(λy hy=>by simp at hy),fT _,λ_ _ _ e=>e⟩ ?_ ?_ ?_⟩
 ·rintro i σ H3 _ ⟨_,_,_,_,_,_,k3⟩;exact bC.of (k3 o _ noS ho)
 ·rintro i x σ H3 hi ⟨kvs,u,rfl,LX,MS,hk3,k3⟩;rw[gf]at hi;let⟨x,ex,rfl⟩:=Option.map_eq_some_iff.mp hi;let⟨x0,x1⟩:=tp.AV x (oA ex);obtain⟨es,eO⟩:∃ es,af[x.toNat]?=⇑es:=⟨_,qB ∅⟩;have WH:=hes es (oA eO);have OJ:aJ H H3:=λa ob e=>k3 a ob (az e hS) (s2 _ _ (s1 _ _ e));let⟨yc,G5,pY⟩:=hR.same OJ;let⟨vi,Dt,hI⟩:=pY.get' (i:=x.toNat) (b:=aO es) (by rw[gf,eO];rfl);let⟨b,Qo,rfl,hb,uh⟩:=id hI;have hil:=nY es []
  have akh:↑(aO es)<=1000:=by
   show ↑(es.foldl bh [])<=_;simp only[qp]at hil;lia
  have vt:qF yc x=⇑↥b:=by
   have z:=dF Dt;rw[show ((x.toNat:Nat):Int)=x by lia]at z;exact z
  refine⟨Y,Y,r,K,V,bC.of G5,vt,b,rfl,⟨_,bC.of hb⟩,λacc cK=>gD (K:=K) (a:=b) (xs:=Qo) (λj σ H5=>∃ u:Option V,σ=[u,⇑↥S]/\H5 acc=⇑(.lst ((((aO es).take j).map (Du f)).map V.int))/\aJ H3 H5) ⟨none,rfl,ah,au cK _⟩ (λj σ H5 _ ⟨K,s5⟩=>bC.of (s5 _ _ hb)) ?_ ?_⟩
  ·rintro j v σ H5 hj ⟨u,rfl,h5,s5⟩;let⟨it,ei,hiv⟩:=uh.get hj;have st:=take_snoc ei;unfold sM NY;refine ji ⟨Y,Y,v,it,S,kvs,f,rfl,hiv.same s5,s5 _ _ LX,λn hn=>?_,?_⟩
   ·subst hn;refine MS n (tp.dn i x ex n ⟨x0,es,eO,?_⟩);rw[← iM];unfold eZ;rw[List.mem_filterMap];exact⟨.win n,oA ei,rfl⟩
   ·refine⟨_,h5,(by rw[cy,cy,gO];exact aQ ∅),Y,?_,bQ cK s5 (aK acc _ _)⟩;rw[ah,st,gU,gU];rfl
  ·rintro σ H5 ⟨u,rfl,h5,s5⟩;rw[uh.len,gP]at h5;have vV:((aO es).map (Du f)).sum=f x:=by rw[hf x es x0 eO];exact LY f es
   have hS5:=s5 _ _ LX
   have kvl:i<↑ks:=by
    rcases Nat.lt_or_ge i ↑ks with q|q
    ·exact q
    ·rw[List.getElem?_eq_none q]at ex;cases ex
   exists acc,Y,bC.of h5;rw[vV];refine⟨Y,Y,S,Y,Dg.k (k:=Sum.inl x) hS5 (aQ ∅),?_⟩;refine⟨eE kvs (Sum.inl x) (.int (f x)),Y,ah,λy hy=>?_,?_,λa ob n e=>?_⟩
   ·rw[j9];rw[take_snoc ex]at hy;by_cases c:y=x
    ·rw[if_pos (by rw[c]),c]
    ·rw[if_neg (λz=>c (Sum.inl.inj z))];rcases List.mem_append.mp hy with q|q
     ·exact MS y q
     ·exact absurd (by simpa using q) c
   ·have:=iu kvs (Sum.inl x) (V.int (f x));lia
   ·rw[aG n];exact s5 _ _ (k3 a ob n e)
 ·rintro σ H3 ⟨kvs,u,rfl,LX,MS,hk3,k3⟩;rw[cy,gP]at MS;exact⟨Y,k S kvs H3 LX (λs hs=>MS s (sk s hs)) (λa ob e=>k3 a ob (az e hS) (s2 _ _ (s1 _ _ e))) hS⟩
class inductive ON
 | mk (r:Addr) (af:cD) (s:Int) (f:Int->Int) (_:vs=[↥r,.int s]) (_:gr H r (af.map aO)) (_:↑af<=1000) (_:(∀ es∈af,↑es<=1000)) (_:fJ af) (_:sW af) (_:0<=s) (_:s<↑af) (_:Weighs af f) (_ :
 ∀ H':Hp,aJ H H'->Q (.int (f s)) H')
theorem OO:aH ["rows","sheet"] ["rows","sheet"] (aB C2):=fc
theorem LZ:‹(4,16,["rows","sheet"],ON)›:=λD=>by
 refine fH D.Wl.F OO λcJ A zn s0 H vs Q E hr h=>?_;let⟨r,af,s,f,rfl,hR,cZ,hes,rS,wX,h0,h1,hf,k⟩:=h;have hu:=gF hr;exists _,(ay (aN (gJ hu (aI D.Wk (nZ D) hr (aa (pv 0) (aa (bO (aa (pv 1) aj)) aj))) (pv 1))));refine⟨Y,Y,jY,λL hL=>?_⟩;have s1:aJ H (aM H L (.lst [.int s])):=au hL _;refine⟨r,L,af,[s],f,rfl,hR.same s1,ah,(by simp),cZ,hes,rS,wX,(λx hx=>by rw[List.mem_singleton.mp hx];exact⟨h0,h1⟩),hf,λS kvs H' hS hv s' _=>?_⟩;have z:=jw.k (k:=Sum.inl s) hS;rw[hv s (by simp)]at z;exact⟨Y,S,Y,z,k H' (s1.trans s')⟩
def qb(g:Int->Row):aR->Row
 | .win n=>g n
 | .aL a b=>[(a,b)]
def bq(sh:Int->List Int)(e:Int):List Int:=if e<0 then sh (-1-e) else [e]
def aT(sh:Int->List Int)(es:List Int):List Int:=es.flatMap (bq sh)
def qc(af:cD)(sh:Int->List Int):Prop:=∀ (x:Int) (es:List Int),0<=x->af[x.toNat]?=⇑es->sh x=aT sh es
def bM(sh:Int->List Int)(aP:List aR):Row:=aP.flatMap (qb λn=>d9 (sh n))
def sX(t:List aR):Prop:=∀ a b,aR.aL a b∈t->a<b
def fC(sh:Int->List Int)(a b:List aR):bM sh (a++b)=bM sh a++bM sh b:=by unfold bM;rw[List.flatMap_append]
def j0(sh:Int->List Int)(it:aR):bM sh [it]=qb (λn=>d9 (sh n)) it:=by simp[bM]
def L0(sh:Int->List Int)(t:List aR)(e:Int)(ok:sX t):bz (bM sh (bh t e))=bz (bM sh t)++bq sh e/\sX (bh t e):=by
 have add:∀ it:aR,(∀ a b,it=.aL a b->a<b)->sX (t++[it]):=λit h a b hm=>by
  rcases List.mem_append.mp hm with z|z
  ·exact ok a b z
  ·exact h a b (List.mem_singleton.mp z).symm
 unfold bh;by_cases h:e<0
 ·rw[if_pos h];refine⟨?_,add _ λa b z=>by cases z⟩;rw[fC,cQ,j0];show _++bz (d9 (sh (-1-e)))=_;rw[fZ];unfold bq;rw[if_pos h]
 ·rw[if_neg h]
  have one:bz [(e,e+1)]=[e]:=by
   rw[gp];unfold jH;have:(e+1-e).toNat=1:=by lia
   show run e (e+1-e).toNat=_;rw[this];rfl
  have vV:bq sh e=[e]:=by unfold bq;rw[if_neg h]
  have vv:bz (bM sh (t++[.aL e (e+1)]))=bz (bM sh t)++bq sh e/\sX (t++[.aL e (e+1)]):=by
   refine⟨?_,add _ λa b z=>by cases z;lia⟩;rw[fC,cQ,j0,vV];show _++bz [(e,e+1)]=_;rw[one]
  rcases qo t with rfl|⟨t',l,rfl⟩
  ·exact vv
  ·rw[m6]at ok add vv ⊢;rw[uK]
   cases l with
   | win n=>exact vv
   | aL a b =>
    show bz (bM sh (if b=e then (t'++[aR.aL a b]).dropLast++[.aL a (e+1)] else (t'++[aR.aL a b])++[.aL e (e+1)]))=_/\sX (if b=e then (t'++[aR.aL a b]).dropLast++[.aL a (e+1)] else (t'++[aR.aL a b])++[.aL e (e+1)]);by_cases hb:b=e
    ·subst hb;have ab:=ok a b (by simp);rw[if_pos rfl,List.dropLast_concat];refine⟨?_,λp q hm=>?_⟩
     ·rw[fC,fC,cQ,cQ,j0,j0,vV,mL];congr 1;show bz [(a,b+1)]=bz [(a,b)]++[b];rw[gp,gp];unfold jH;show run a (b+1-a).toNat=run a (b-a).toNat++[b];have:(b+1-a).toNat=(b-a).toNat+1:=by lia
      rw[this,u7];congr 2;lia
     ·rcases List.mem_append.mp hm with z|z
      ·exact ok p q (sj _ z)
      ·have z':aR.aL p q=aR.aL a (b+1):=by simpa using z
       cases z';lia
    ·rw[if_neg hb];exact vv
def Ab(sh:Int->List Int)(es:List Int):bz (bM sh (aO es))=aT sh es/\sX (aO es):=by
 have z:∀ t:List aR,sX t->bz (bM sh (es.foldl bh t))=bz (bM sh t)++aT sh es/\sX (es.foldl bh t):=by
  induction es with
  | nil=>intro t ok;exact⟨by simp[aT],ok⟩
  | cons e es ih =>
   intro t ok;let⟨h1,h2⟩:=L0 sh t e ok;let⟨h3,h4⟩:=ih _ h2;refine⟨?_,h4⟩;rw[m7,h3,h1,mL];unfold aT;rw[kG]
 have q:=z [] (λa b h=>by cases h);refine⟨?_,q.2⟩;unfold aO;rw[q.1];rfl
def L7(sh:Int->List Int)(it:aR)(h:∀ a b,it=.aL a b->a<b):↑(qb (λn=>d9 (sh n)) it)<=↑(bz (qb (λn=>d9 (sh n)) it)):=by
 cases it with
 | win n =>
  show ↑(d9 (sh n))<=↑(bz (d9 (sh n)));rw[fZ];have z:=zF (sh n) [];simpa [d9] using z
 | aL a b =>
  have ab:=h a b rfl;show 1<=↑(bz [(a,b)]);rw[gp];unfold jH;show 1<=↑(run a (b-a).toNat);rw[J4];lia
theorem uy(sh:Int->List Int):∀ aP:List aR,sX aP->↑(bM sh aP)<=↑(bz (bM sh aP))
 | [],_=>by simp[bM]
 | it::aP,h=>by
  have e:bM sh (it::aP)=qb (λn=>d9 (sh n)) it++bM sh aP:=by unfold bM;rw[kG]
  rw[e,cQ,cX,cX];have a:=L7 sh it (λa b z=>h a b (by rw[← z];simp));have b:=uy sh aP (λa b z=>h a b (oE _ z));lia
def Ma(sh:Int->List Int)(aP:List aR)(h:sX aP):∀ p∈bM sh aP,p.1<=p.2:=by
 intro p hp;unfold bM at hp;let⟨it,hi,hm⟩:=List.mem_flatMap.mp hp
 cases it with
 | win n=>exact qQ _ p hm
 | aL a b =>
  have:p=(a,b):=by simpa [qb] using hm
  subst this;have:=h a b hi;show a<=b;lia
class inductive Mb
 | mk (v:V) (it:aR) (S:Addr) (kvs:List (eY × V)) (g:Int->Row) (_:vs=[v,↥S]) (_:cH H v it) (_:H S=⇑(.dK kvs)) (_:(∀ n,it=.win n->∃ a,cC kvs (Sum.inl n)=⇑↥a/\cB H a (g n))) (_ :
 ∀ (a:Addr) (H':Hp),cB H' a (qb g it)->aJ H H'->((∃ n,it=.win n/\cC kvs (Sum.inl n)=⇑↥a)\/H a=none)->Q ↥a H')
theorem ID:aH ["item","views"] ["item","views"] (aB wA):=fc
theorem yd:‹(1,17,["item","views"],Mb)›:=λD=>by
 specialize fH D.Wm.F ID;let⟨v,it,S,kvs,g,rfl,⟨a,rfl,ha⟩,hS,hw,k⟩:=h;have hu:=gF hr;exists _,(ao (bS (br gn (bI dh (pv 0) aC) bP (bx _)) (ay (aN (gJ hu (pv 1) (bI dh (pv 0) aC)))) bG) (ay (aN (bO (aa (eL (aa (bI dh (pv 0) aC) (aa (bI dh (pv 0) aC) aj))) aj)))))
 cases it with
 | win n =>
  refine⟨Y,a,K,V,gV.of ha,V,Y,cT (λ_=>?_) (λz=>absurd (by decide) z)⟩;let⟨b,hb,Rb⟩:=hw n rfl;have z:=jw.k (k:=Sum.inl n) hS;rw[hb]at z;exact⟨Y,Y,a,K,V,gV.of ha,rfl,S,Y,z,k b H Rb (aJ.refl H) (.inl ⟨n,rfl,hb⟩)⟩
 | aL p q =>
  refine⟨Y,a,K,V,gV.of ha,V,Y,cT (λz=>absurd z (by decide)) (λ_=>?_)⟩;refine⟨Y,a,K,V,gV.of ha,rfl,Y,a,K,V,gV.of ha,rfl,qU,λt ht=>⟨jY,λl hl=>?_⟩⟩;have s1:aJ H (aM H t (.tup [.int p,.int q])):=au ht _;have s2:=s1.trans (au hl (.lst [↥t]));refine k l _ ⟨[t],ah,.cons ?_ .nil⟩ s2 (.inr ?_)
  ·exact au hl _ _ _ ah
  ·cases e:H l with
   | none=>rfl
   | some o=>exact absurd ((s1 _ _ e).symm.trans hl) (by simp)
theorem bN.FJ{H H':Hp}{S:Addr}{kvs:List (eY × V)}(hS:H S=⇑(.dK kvs))(k:∀ a ob,a≠S->H a=⇑ob->H' a=⇑ob):∀ {as:List Addr} {r:Row},bN H as r->bN H' as r
 | _,_,.nil=>.nil
 | _,_,.cons r t=>.cons (k _ _ (λz=>by
   have r':=r;unfold wI at r';rw[z,hS]at r'
   cases r') r) (bN.FJ hS k t)
def cB.FJ{H H':Hp}{S a:Addr}{kvs:List (eY × V)}{row:Row}(hS:H S=⇑(.dK kvs))(n:a≠S)(k:∀ a ob,a≠S->H a=⇑ob->H' a=⇑ob)(R:cB H a row):cB H' a row:=by
 let⟨as,h,p⟩:=R;exact⟨as,k _ _ n h,p.FJ hS k⟩
def Kl(H:Hp)(kvs:List (eY × V))(sh:Int->List Int)(xs:List Int):Prop:=∀ x∈xs,∃ a,cC kvs (Sum.inl x)=⇑↥a/\cB H a (d9 (sh x))
class inductive Sk
 | mk (r L:Addr) (af:cD) (ss:List Int) (sh:Int->List Int) (_:vs=[↥r,↥L]) (_:gr H r (af.map aO)) (_:H L=⇑(.lst (ss.map V.int))) (_:↑ss<=1000) (_:↑af<=1000) (_:(∀ es∈af,↑es<=1000)) (_:fJ af) (_:sW af) (_:(∀ s∈ss,0<=s/\s<↑af)) (_:qc af sh) (_:(∀ x:Int,0<=x->x<↑af->↑(sh x)<=10000)) (_ :
 ∀ (S:Addr) (kvs:List (eY × V)) (ks:List Int) (H':Hp),H' S=⇑(.dK kvs)->Kl H' kvs sh ks->LW af ks->(∀ s∈ss,s∈ks)->(∀ x∈ks,∀ a,cC kvs (Sum.inl x)=⇑↥a->H a=none)->aJ H H'->H S=none->Q ↥S H')
theorem nJ:aH ["rows","sheets","views","number"] ["rows","sheets"] (aB lD):=fc
theorem mz:‹(3,18,["rows","sheets"],Sk)›:=λD=>by
 refine fH D.RX.F nJ λcJ A zn s0 H vs Q E hr h=>?_;let⟨r,L,af,ss,sh,rfl,hR,hL,hsl,cZ,hes,rS,wX,hin,BL,hbd,k⟩:=h;have hu:=gF hr;refine⟨_,(ao (aW (i:=2) nJ.nd mh) (ao (dN PassesOwn.never rfl (cz (aI D.Wj (FH D) hr (aa (pv 0) (aa (pv 1) aj)))) (bW (i:=3) nJ.nd) (ay (vc hu (pv 2) (pv 3) (aI D.dq4 (FF D) hr (aa (Cg (N:=["item","stretch","views"]) (mq (sc:=aB lD) (NX:=["rows","sheets","views","number"]) (jx:=[none,none,some 2]) rfl rfl rfl nofun nofun rfl nofun rfl nofun) rfl (cz (bI bw (pv 0) (pv 3))) (λ_ _ _ _ _ _=>(bW (i:=0) (show List.Nodup (["item","stretch","views"]:List Str) by decide +kernel))) (λ_ _ _ _ _ _=>gX) (λ_ _ _ _ _ _=>(Of (aI D.Wm (yd D) hr (aa (pv 0) (aa (pv 2) aj))))) (λ_ _ _ _ _ _=>(bW (i:=1) (show List.Nodup (["item","stretch","views"]:List Str) by decide +kernel))) (λ_ _ _ _ _ _=>gX) (λ_ _ _ _ _ _=>(pv 1))) aj)) rfl))) (ay (aN (pv 2))))),?_⟩;intro S hS;have s1:aJ H (aM H S (.dK [])):=au hS _;refine⟨Y,Y,r,L,af,ss,rfl,hR.same s1,s1 _ _ hL,hsl,cZ,hes,rS,wX,hin,λks o H2 ho s2 tp sk kl Nl=>?_⟩;have VT:=s2 _ _ (ah (H:=H) (a:=S) (o:=.dK []));have noS:o≠S:=(az ah Nl).symm;refine⟨o,rfl,⟨_,bC.of ho⟩,dz (K:=K) (a:=o) (xs:=ks.map V.int) (λi σ H3=>∃ (kvs:List (eY × V)) (u:Option V),σ=[⇑↥r,⇑↥L,⇑↥S,u]/\H3 S=⇑(.dK kvs)/\Kl H3 kvs sh (ks.take i)/\↑kvs<=i/\(∀ x a,cC kvs (Sum.inl x)=⇑↥a->H a=none/\a≠S)/\(∀ a ob,a≠S->H2 a=⇑ob->H3 a=⇑ob)) ⟨[],none,rfl,VT,(λy hy=>by simp at hy),fT _,(λx a e=>by cases e),λ_ _ _ e=>e⟩ ?_ ?_ ?_⟩
 ·rintro i σ H3 _ ⟨_,_,_,_,_,_,_,k3⟩;exact bC.of (k3 o _ noS ho)
 ·rintro i x σ H3 hi ⟨kvs,u,rfl,LX,MS,hk3,hn3,k3⟩;rw[gf]at hi;let⟨x,ex,rfl⟩:=Option.map_eq_some_iff.mp hi;let⟨x0,x1⟩:=tp.AV x (oA ex);obtain⟨es,eO⟩:∃ es,af[x.toNat]?=⇑es:=⟨_,qB ∅⟩;have OJ:aJ H H3:=λa ob e=>k3 a ob (az e hS) (s2 _ _ (s1 _ _ e));let⟨yc,G5,pY⟩:=hR.same OJ;let⟨vi,Dt,hI⟩:=pY.get' (i:=x.toNat) (b:=aO es) (by rw[gf,eO];rfl);let⟨b,Qo,rfl,hb,uh⟩:=id hI;let⟨Hz,hok⟩:=Ab sh es;have shx:=BL x es x0 eO
  have jP:↑(bM sh (aO es))<=10000:=by
   have z:=uy sh (aO es) hok;rw[Hz,← shx]at z;have:=hbd x x0 x1;lia
  have part:∀ j,↑(bM sh ((aO es).take j))<=10000:=λj=>by
   have e:bM sh (aO es)=bM sh ((aO es).take j)++bM sh ((aO es).drop j):=by rw[← fC,List.take_append_drop]
   rw[e,cX]at jP;lia
  have vt:qF yc x=⇑↥b:=by
   have z:=dF Dt;rw[show ((x.toNat:Nat):Int)=x by lia]at z;exact z
  refine⟨Y,Y,r,K,V,bC.of G5,vt,b,rfl,⟨_,bC.of hb⟩,λacc cK=>xZ (K:=K) (a:=b) (xs:=Qo) (λj σ H5=>∃ (u v:Option V) (as:List Addr),σ=[u,v,⇑↥S]/\H5 acc=⇑(.lst (as.map V.ref))/\bN H5 as (bM sh ((aO es).take j))/\aJ H3 H5) ⟨none,none,[],rfl,ah,.nil,au cK _⟩ (λj σ H5 _ ⟨K,K,s5⟩=>bC.of (s5 _ _ hb)) ?_ ?_⟩
  ·rintro j v σ H5 hj ⟨u,u2,as,rfl,h5,p5,s5⟩;let⟨it,ei,hiv⟩:=uh.get hj;have st:bM sh ((aO es).take (j+1))=bM sh ((aO es).take j)++qb (λn=>d9 (sh n)) it:=by rw[take_snoc ei,fC,j0]
   refine VA ?_;refine ji ?_;refine⟨Y,Y,v,it,S,kvs,(λn=>d9 (sh n)),rfl,hiv.same s5,s5 _ _ LX,λn hn=>?_,λa2 H6 R6 s6 hor=>?_⟩
   ·subst hn
    let⟨a,ha,Ra⟩:=MS n (tp.dn i x ex n ⟨x0,es,eO,by
     rw[← iM];unfold eZ;rw[List.mem_filterMap]
     exact⟨.win n,oA ei,rfl⟩⟩)
    exact⟨a,ha,Ra.same s5⟩
   let⟨WM,h6a,p6⟩:=id R6
   have na2:a2≠acc:=by
    rcases hor with ⟨n,hn,hv⟩|hn
    ·subst hn
     let⟨a,ha,as0,h0',_⟩:=MS n (tp.dn i x ex n ⟨x0,es,eO,by
      rw[← iM];unfold eZ;rw[List.mem_filterMap]
      exact⟨.win n,oA ei,rfl⟩⟩)
     rw[hv]at ha;cases ha;exact az h0' cK
    ·exact (az h5 hn).symm
   have h6:=s6 _ _ h5;have pl:=part (j+1);rw[st,cX]at pl;have al:=p5.len;have al2:=p6.len;refine⟨a2,rfl,⟨_,bC.of h6a⟩,Ii (K:=K) (a:=a2) (acc:=acc) (g:=sM 1) (tt:=NY) (te:=UR 1) (xs:=WM.map V.ref) (λl σ H7=>∃ v2:Option V,σ=[⇑v,v2,⇑↥S]/\H7 acc=⇑(.lst ((as++WM.take l).map V.ref))/\bN H7 (as++WM.take l) (bM sh ((aO es).take j)++(qb (λn=>d9 (sh n)) it).take l)/\cL acc H6 H7/\aJ H3 H7) ?_ ?_ ?_ ?_⟩
   ·exact⟨u2,rfl,(by simpa using h6),(by simpa using p5.same s6),(λ_ _ e _=>e),s5.trans s6⟩
   ·rintro l σ H7 _ ⟨_,_,_,_,K7,_⟩;exact bC.of (K7 a2 _ h6a na2)
   ·rintro l y σ H7 hl ⟨v2,rfl,h7,p7,K7,s7⟩;rw[gf]at hl;let⟨t,et,rfl⟩:=Option.map_eq_some_iff.mp hl;let⟨pr,epr,hpr⟩:=p6.get et
    have ll:l<WM.length:=by
     rcases Nat.lt_or_ge l WM.length with q|q
     ·exact q
     ·rw[List.getElem?_eq_none q]at et;cases et
    have aaQ:wI H7 t pr:=K7 t _ hpr (λz=>by
     have q:H6 acc=⇑(.tup [.int pr.1,.int pr.2]):=by rw[← z];exact hpr
     rw[h6]at q
     cases q)
    have K8:cL acc H7 (aM H7 acc (.lst ((as++WM.take l).map V.ref++[↥t]))):=aK acc _ _;refine VA ?_;refine ji ?_;refine⟨Y,_,h7,?_,Y,?_,?_,?_,bQ cK s7 K8⟩
    ·rw[cy,cX,gO];exact aQ ∅
    ·rw[ah,take_snoc et,← mL,gU (l₁:=as++WM.take l)];rfl
    ·rw[take_snoc et,take_snoc epr,← mL,← mL]
     exact bN.snoc (p7.keep h7 K8) (K8 t _ aaQ (λz=>by
      have q:H7 acc=⇑(.tup [.int pr.1,.int pr.2]):=by rw[← z];exact aaQ
      rw[h7]at q
      cases q))
    ·exact λa ob e n=>K8 a ob (K7 a ob e n) n
   ·rintro σ H7 ⟨v2,rfl,h7,p7,K7,s7⟩;rw[cy,gP]at h7 p7;rw[al2,gP]at p7;exact⟨K,rfl,h7,(by rw[st];exact p7),s7⟩
  ·rintro σ H5 ⟨u,u2,as,rfl,h5,p5,s5⟩;rw[uh.len,gP]at p5
   have kvl:i<↑ks:=by
    rcases Nat.lt_or_ge i ↑ks with q|q
    ·exact q
    ·rw[List.getElem?_eq_none q]at ex;cases ex
   refine⟨acc,Y,⟨as,h5,p5⟩,Q,λq H6 R6 s6 hq=>?_⟩;have WJ:=s6 _ _ (s5 _ _ LX);have nqS:q≠S:=(az (s5 _ _ LX) hq).symm;have er:cU (bM sh (aO es))=d9 (sh x):=by rw[E2 _ (Ma sh _ hok),Hz,shx]
   rw[er]at R6;have k7:∀ a ob,a≠S->H6 a=⇑ob->aM H6 S (.dK (eE kvs (Sum.inl x) ↥q)) a=⇑ob:=λa ob n e=>by rw[aG n];exact e
   refine⟨Y,Y,S,Y,Dg.k (k:=Sum.inl x) WJ (aQ ∅),?_⟩;refine⟨eE kvs (Sum.inl x) ↥q,Y,ah,λy hy=>?_,?_,λy a e=>?_,λa ob n e=>k7 a ob n (s6 _ _ (s5 _ _ (k3 a ob n e)))⟩
   ·rw[j9];by_cases c:y=x
    ·rw[if_pos (by rw[c]),c];exact⟨q,rfl,R6.FJ WJ nqS k7⟩
    ·rw[if_neg (λz=>c (Sum.inl.inj z))];rw[take_snoc ex]at hy;rcases List.mem_append.mp hy with z|z
     ·let⟨a,ha,Ra⟩:=MS y z;exact⟨a,ha,((Ra.same s5).same s6).FJ WJ (hn3 y a ha).2 k7⟩
     ·exact absurd (by simpa using z) c
   ·have:=iu kvs (Sum.inl x) (V.ref q);lia
   ·rw[j9]at e;by_cases c:y=x
    ·rw[if_pos (by rw[c])]at e;cases e;refine⟨?_,nqS⟩
     cases z:H q with
     | none=>rfl
     | some ob=>exact absurd ((s5 _ _ (OJ _ _ z)).symm.trans hq) (by simp)
    ·rw[if_neg (λz=>c (Sum.inl.inj z))]at e;exact hn3 y a e
 ·rintro σ H3 ⟨kvs,u,rfl,LX,MS,hk3,hn3,k3⟩;rw[cy,gP]at MS;exact⟨Y,k S kvs ks H3 LX MS tp sk (λx _ a e=>(hn3 x a e).1) (λa ob e=>k3 a ob (az e hS) (s2 _ _ (s1 _ _ e))) hS⟩
class inductive Sm
 | mk (r:Addr) (af:cD) (s:Int) (sh:Int->List Int) (_:vs=[↥r,.int s]) (_:gr H r (af.map aO)) (_:↑af<=1000) (_:(∀ es∈af,↑es<=1000)) (_:fJ af) (_:sW af) (_:0<=s) (_:s<↑af) (_:qc af sh) (_:(∀ x:Int,0<=x->x<↑af->↑(sh x)<=10000)) (_ :
 ∀ (o:Addr) (H':Hp),cB H' o (d9 (sh s))->aJ H H'->H o=none->Q ↥o H')
theorem Sn:aH ["rows","sheet"] ["rows","sheet"] (aB HN):=fc
theorem OP:‹(4,19,["rows","sheet"],Sm)›:=λD=>by
 refine fH D.Wn.F Sn λcJ A zn s0 H vs Q E hr h=>?_;let⟨r,af,s,sh,rfl,hR,cZ,hes,rS,wX,h0,h1,BL,hbd,k⟩:=h;have hu:=gF hr;exists _,(ay (aN (gJ hu (aI D.RX (mz D) hr (aa (pv 0) (aa (bO (aa (pv 1) aj)) aj))) (pv 1))));refine⟨Y,Y,jY,λL hL=>?_⟩;have s1:aJ H (aM H L (.lst [.int s])):=au hL _;refine⟨r,L,af,[s],sh,rfl,hR.same s1,ah,(by simp),cZ,hes,rS,wX,(λx hx=>by rw[List.mem_singleton.mp hx];exact⟨h0,h1⟩),BL,hbd,λS kvs ks H' hS hv tp sk hn s' _=>?_⟩;have sk:=sk s (by simp);let⟨a,ha,Ra⟩:=hv s sk;have z:=jw.k (k:=Sum.inl s) hS;rw[ha]at z;exact⟨Y,S,Y,z,k a H' Ra (s1.trans s') (aU s1 (hn s sk a ha))⟩
def WN:aR->aR->Bool
 | .aL _ b,.aL c _=>decide (b=c)
 | _,_=>false
class inductive WO
 | mk (x y:V) (i j:aR) (_:vs=[x,y]) (_:cH H x i) (_:cH H y j) (_:Q (.bl (WN i j)) H)
theorem Mc:aH ["one","other"] ["one","other"] (aB zu):=fc
theorem IE:‹(1,20,["one","other"],WO)›:=λD=>by
 specialize fH D.ZS.F Mc;let⟨x,y,i,j,rfl,⟨a,rfl,ha⟩,⟨b,rfl,hb⟩,k⟩:=h;exists _,(ay (aN (ng (gW gn (bI dh (pv 0) aC) bP (bx _)) (ng (gW gn (bI dh (pv 1) aC) bP (bx _)) (oK (gW gn (bI dh (pv 0) aC) (bI dh (pv 1) aC) (bx _)))))))
 cases i with
 | win n=>exact⟨Y,a,K,V,gV.of ha,V,Y,cT (λz=>absurd z (by decide)) (λ_=>k)⟩
 | aL p q =>
  refine⟨Y,a,K,V,gV.of ha,V,Y,cT (λ_=>?_) (λz=>absurd (by decide) z)⟩
  cases j with
  | win n=>exact⟨Y,b,K,V,gV.of hb,V,Y,cT (λz=>absurd z (by decide)) (λ_=>k)⟩
  | aL u v =>
   refine⟨Y,b,K,V,gV.of hb,V,Y,cT (λ_=>?_) (λz=>absurd (by decide) z)⟩;exists Y,a,K,V,gV.of ha,rfl,Y,b,K,V,gV.of hb,V
   have e:decide (V.int q=V.int u)=decide (q=u):=by
    by_cases c:q=u
    ·rw[c];simp
    ·have c2:¬ V.int q=V.int u:=λz=>c (V.int.inj z);rw[decide_eq_false c,decide_eq_false c2]
   rw[e];exact k
def bU(t:List aR)(it:aR):List aR :=
 match t.getLast?,it with
 | some (.aL a b),.aL c d=>if b=c then t.dropLast++[.aL a d] else t++[it]
 | _,_=>t++[it]
def IF(aP:List aR):List aR:=aP.foldl bU []
def IG(aP:List aR):∀ t:List aR,↑(aP.foldl bU t)<=↑t+↑aP:=by
 induction aP with
 | nil=>intro t;simp
 | cons e aP ih =>
  intro t;rw[m7];have z:=ih (bU t e)
  have z2:↑(bU t e)<=↑t+1:=by
   unfold bU;split
   ·split
    ·rw[cX,List.length_dropLast,qy];lia
    ·simp
   ·simp
  rw[kX];lia
class inductive Dv
 | mk (r:Addr) (aP:List aR) (_:vs=[↥r]) (_:bR H ↥r aP) (_:↑aP<=1000000) (_ :
 ∀ (o:Addr) (H':Hp),bR H' ↥o (IF aP)->aJ H H'->H o=none->Q ↥o H')
theorem nK:aH ["items","told","item"] ["items"] (aB oU):=fc
theorem jI:‹(2,21,["items"],Dv)›:=λD=>by
 specialize fH D.OB.F nK;let⟨r,aP,rfl,⟨a,Qo,e,hr1,uh⟩,cZ,k⟩:=h;cases e;refine⟨_,(ao (aW (i:=1) nK.nd (bO aj)) (ao (dN PassesOwn.never rfl (cz (pv 0)) (bW (i:=2) nK.nd) (ay (bS (PW.pt (oJ (lO (pv 1) (λ_=>rfl)) (mR (fN (aI D.ZS (IE D) hr (aa (bI bw (pv 1) (gm dQ aC)) (aa (pv 2) aj))))))) (ay (nh (eL (aa bP (aa (bI dh (bI bw (pv 1) (gm dQ aC)) aC) (aa (bI dh (pv 2) aC) aj)))) (oN (pv 1) (gm dQ aC) jB))) (ay (aV (dI qm jQ jR bT (pv 1) (aa (pv 2) aj))))))) (ay (aN (pv 1))))),?_⟩;refine⟨iZ,λq hq=>?_⟩;have s0:aJ H (aM H q (.lst [])):=au hq _;refine⟨Y,r,rfl,⟨_,bC.of (s0 _ _ hr1)⟩,dz (K:=K) (a:=r) (xs:=Qo) (λi σ H2=>∃ (vs:List V) (u:Option V),σ=[⇑↥r,⇑↥q,u]/\H2 q=⇑(.lst vs)/\bV (cH H2) vs ((aP.take i).foldl bU [])/\aJ H H2) ⟨[],none,rfl,ah,.nil,s0⟩ (by rintro i σ H2 _ ⟨_,_,_,_,_,s⟩;exact bC.of (s _ _ hr1)) ?_ ?_⟩
 ·rintro i x σ H2 hi ⟨vs,u,rfl,eK,hb,s⟩;let⟨it,ei,hiv⟩:=uh.get hi;have hx2:=hiv.same s;have step:(aP.take (i+1)).foldl bU []=bU ((aP.take i).foldl bU []) it:=by rw[take_snoc ei,List.foldl_append];rfl
  have bl:↑vs<sizeLine:=by
   have z:=hb.len;have z2:=IG (aP.take i) [];rw[gO,qp]at z2;exact aQ ∅
  have app:bU ((aP.take i).foldl bU []) it=(aP.take i).foldl bU []++[it]->∃ (Di:List V) (u':Option V),[⇑(V.ref r),⇑↥q,⇑x]=[⇑↥r,⇑↥q,u']/\(aM H2 q (.lst (vs++[x]))) q=⇑(.lst Di)/\bV (cH (aM H2 q (.lst (vs++[x])))) Di ((aP.take (i+1)).foldl bU [])/\aJ H (aM H2 q (.lst (vs++[x]))):=λe=>by
   refine⟨P,rfl,ah,?_,bQ hq s (aK q _ _)⟩;rw[step,e];exact bV.snoc (hb.mono λv i h=>h.keep eK (aK q _ _)) (hx2.keep eK (aK q _ _))
  rcases qo ((aP.take i).foldl bU []) with hn|⟨t0,l0,hn⟩
  ·have hvs:vs=[]:=by
    rw[hn]at hb;exact List.eq_nil_of_length_eq_zero hb.len
   subst hvs;refine⟨Y,false,.inl ⟨_,bC.of eK,rfl⟩,dM (dM ?_)⟩;refine⟨Y,.inl ⟨rfl,_,bC.of eK⟩,Y,q,Z,eK,bl,app ?_⟩;rw[hn];rfl
  ·rw[m6]at hn;have hb':=hb;rw[hn]at hb';let⟨us,v0,rfl,hb0,hv0⟩:=hb'.split;let⟨a0,rfl,G3⟩:=id hv0;refine⟨Y,true,.inl ⟨_,bC.of eK,by simp⟩,ji ?_⟩;exists Y,Y,q,K,V,bC.of eK,eX _ _,Y,P,l0,it,rfl,hv0,hx2,Y
   cases l0 with
   | win n =>
    refine dM ?_;refine⟨Y,.inl ⟨rfl,_,bC.of eK⟩,Y,q,Z,eK,bl,app ?_⟩;rw[hn];unfold bU;rw[uK]
   | aL p1 p2 =>
    cases it with
    | win n =>
     refine dM ?_;refine⟨Y,.inl ⟨rfl,_,bC.of eK⟩,Y,q,Z,eK,bl,app ?_⟩;rw[hn];unfold bU;rw[uK]
    | aL c d =>
     refine cT (λz=>?_) (λz=>?_)
     ·have e2:p2=c:=of_decide_eq_true z;let⟨ax,rfl,hax⟩:=id hx2;refine⟨Y,Y,q,K,V,bC.of eK,eX _ _,a0,K,V,gV.of G3,rfl,Y,ax,K,V,gV.of hax,rfl,Ir,λt ht=>?_⟩;refine⟨Y,Y,q,P,↑us,V,au ht _ _ _ eK,(by rw[cX];exact zB _),?_⟩;rw[zC];refine⟨P,rfl,ah,?_,bQ hq (s.trans (au ht _)) (aK q _ _)⟩
      have e3:(aP.take (i+1)).foldl bU []=t0++[.aL p1 d]:=by
       rw[step,hn];unfold bU;rw[uK,List.dropLast_concat];show (if p2=c then t0++[aR.aL p1 d] else _)=_;rw[if_pos e2]
      rw[e3];exact bV.new (it:=.aL p1 d) eK hb0 ht _
     ·have e2:¬ p2=c:=λw=>z (decide_eq_true w);refine⟨Y,.inl ⟨rfl,_,bC.of eK⟩,Y,q,Z,eK,bl,app ?_⟩;rw[hn];unfold bU;rw[uK];show (if p2=c then _ else t0++[aR.aL p1 p2]++[aR.aL c d])=_;rw[if_neg e2]
 ·rintro σ H2 ⟨vs,u,rfl,eK,hb,s⟩;rw[uh.len,gP]at hb;exact⟨Y,k q H2 ⟨q,vs,rfl,eK,hb⟩ s hq⟩
def fD(r:Row):List aR:=r.map λp=>.aL p.1 p.2
class inductive So
 | mk (r:Addr) (row:Row) (_:vs=[↥r]) (_:cB H r row) (_:↑row<=100000) (_ :
 ∀ (o:Addr) (H':Hp),bR H' ↥o (fD (cU row))->aJ H H'->H o=none->Q ↥o H')
theorem Sq:aH ["row"] ["row"] (aB C3):=fc
theorem qW:‹(2,22,["row"],So)›:=λD=>by
 specialize fH D.LO.F Sq;let⟨r,row,rfl,R,cZ,k⟩:=h;refine⟨_,(ay (aN (gI (N:=["start","stop"]) (mq (sc:=aB C3) (NX:=["row"]) (jx:=[none,none]) rfl rfl rfl nofun nofun rfl nofun rfl nofun) rfl (cz (aI D.dq4 (FF D) hr (aa (pv 0) aj))) (λ_ _ _ _ _ _=>(ve (n:=2) rfl (b9 (bW (i:=0) (show List.Nodup (["start","stop"]:List Str) by decide +kernel)) (b9 (bW (i:=1) (show List.Nodup (["start","stop"]:List Str) by decide +kernel)) iI)))) (λ_ _ _ _ _ _=>gX) (λ_ _ _ _ _ _=>(eL (aa bP (aa (pv 0) (aa (pv 1) aj)))))))),?_⟩;refine⟨Y,r,row,rfl,R,Q,λq H1 R1 s1 hq=>?_⟩;let⟨as,h1,p1⟩:=id R1;have pl:=rQ row;refine⟨q,rfl,⟨_,bC.of h1⟩,λacc cK=>gD (K:=K) (a:=q) (xs:=as.map V.ref) (λi σ H2=>∃ (u v:Option V) (vs:List V),σ=[u,v]/\H2 acc=⇑(.lst vs)/\bV (cH H2) vs (fD ((cU row).take i))/\aJ H1 H2) ⟨none,none,[],rfl,ah,.nil,au cK _⟩ (by rintro i σ H2 _ ⟨_,_,_,_,_,_,s⟩;exact bC.of (s _ _ h1)) ?_ ?_⟩
 ·rintro i x σ H2 hi ⟨u,v,vs,rfl,ha,t2,s⟩;rw[gf]at hi;let⟨a,ea,rfl⟩:=Option.map_eq_some_iff.mp hi;let⟨⟨st,en⟩,ep,hpa⟩:=p1.get ea;have bl:=t2.len;unfold fD at bl;rw[cy,gO]at bl;refine⟨a,Y,gV.of (s _ _ hpa),rfl,P,rfl,Z,yes (ji ?_)⟩;refine⟨Y,Y,Ir,λt ht=>?_⟩;refine⟨vs,au ht _ _ _ ha,aQ ∅,K,rfl,ah,?_,bQ cK (s.trans (au ht _)) (aK acc _ _)⟩
  have e:fD ((cU row).take (i+1))=fD ((cU row).take i)++[.aL st en]:=by
   rw[take_snoc ep];unfold fD;rw[gU];rfl
  rw[e];exact bV.new (it:=.aL st en) ha t2 ht _
 ·rintro σ H2 ⟨u,v,vs,rfl,ha,t2,s⟩;rw[cy,p1.len,gP]at t2;refine k acc H2 ⟨acc,vs,rfl,ha,t2⟩ (s1.trans s) ?_
  cases e:H acc with
  | none=>rfl
  | some o=>exact absurd ((s1 _ _ e).symm.trans cK) (by simp)
def gz:aR->List Int
 | .win n=>[-1-n]
 | .aL a b=>run a (b-a).toNat
def eS(aP:List aR):List Int:=aP.flatMap gz
def mY:aR->Prop
 | .win n=>0<=n
 | .aL a b=>0<=a/\a<b
def gx(aP:List aR):Prop:=∀ it∈aP,mY it
def gb(a b:List aR):eS (a++b)=eS a++eS b:=by unfold eS;rw[List.flatMap_append]
def mC(a:aR):eS [a]=gz a:=by simp[eS]
theorem gx.append{a b:List aR}(h:gx a)(g:gx b):gx (a++b):=λit hm=>(List.mem_append.mp hm).elim (h it) (g it)
theorem gx.one{a:aR}(h:mY a):gx [a]:=λit hm=>by rw[List.mem_singleton.mp hm];exact h
def OQ(t:List aR){n:Int}(h:0<=n):bh t (-1-n)=t++[.win n]:=by
 unfold bh;rw[if_pos ∅];congr 3;lia
def Me(t:List aR)(p s:Int)(h:0<=s):bh (t++[.aL p s]) s=t++[.aL p (s+1)]:=by
 unfold bh;rw[if_neg ∅,uK];show (if s=s then (t++[aR.aL p s]).dropLast++[.aL p (s+1)] else _)=_;rw[if_pos rfl,List.dropLast_concat]
theorem Cp(t:List aR)(p:Int):∀ (n:Nat) (s:Int),0<=s->(run s n).foldl bh (t++[.aL p s])=t++[.aL p (s+n)]
 | 0,s,_=>by simp[run]
 | n+1,s,h=>by
  rw[run,m7,Me t p s h,Cp t p n (s+1) ∅];congr 3;lia
def II(t:List aR)(it:aR)(h:mY it):bU t it=(gz it).foldl bh t:=by
 cases it with
 | win n =>
  show bU t (.win n)=bh t (-1-n);rw[OQ t h];unfold bU
  cases t.getLast? with
  | none=>rfl
  | some l=>cases l <;> rfl
 | aL a b =>
  let⟨a0,ab⟩:=h;have e:(b-a).toNat=(b-(a+1)).toNat+1:=by lia
  show bU t (.aL a b)=(run a (b-a).toNat).foldl bh t;rw[e,run,m7]
  have nO:∀ (u:List aR) (p:Int),(run (a+1) (b-(a+1)).toNat).foldl bh (u++[.aL p (a+1)])=u++[.aL p b]:=λu p=>by
   rw[Cp u p _ _ ∅];congr 3;lia
  unfold bU bh;rw[if_neg ∅]
  cases t.getLast? with
  | none=>exact (nO t a).symm
  | some l =>
   cases l with
   | win n=>exact (nO t a).symm
   | aL p q =>
    show (if q=a then t.dropLast++[aR.aL p b] else t++[aR.aL a b])=List.foldl bh (if q=a then t.dropLast++[aR.aL p (a+1)] else t++[aR.aL a (a+1)]) _;by_cases c:q=a
    ·rw[if_pos c,if_pos c,nO]
    ·rw[if_neg c,if_neg c,nO]
def mZ(aP:List aR)(h:gx aP):IF aP=aO (eS aP):=by
 unfold IF aO eS;rw[l5]
 have z:∀ (aP:List aR) (t:List aR),gx aP->aP.foldl bU t=aP.foldl (λc a=>(gz a).foldl bh c) t:=by
  intro aP
  induction aP with
  | nil=>intro t _;rfl
  | cons it aP ih =>
   intro t h;rw[m7,m7,II t it (h it (by simp))];exact ih _ λi hi=>h i (oE _ hi)
 exact z aP [] h
def Mf(t:List aR)(e:Int)(h:gx t):eS (bh t e)=eS t++[e]/\gx (bh t e):=by
 unfold bh;by_cases c:e<0
 ·rw[if_pos c,gb,mC];refine⟨?_,h.append (gx.one (by show 0<=-1-e;lia))⟩;show eS t++[-1-(-1-e)]=_;rw[show -1-(-1-e)=e by lia]
 ·rw[if_neg c]
  have pl:eS (t++[.aL e (e+1)])=eS t++[e]/\gx (t++[.aL e (e+1)]):=by
   refine⟨?_,h.append (gx.one ⟨Q,Q⟩)⟩;rw[gb,mC];show _++run e (e+1-e).toNat=_;rw[show (e+1-e).toNat=1 by lia];rfl
  rcases qo t with rfl|⟨t',l,rfl⟩
  ·exact pl
  ·rw[m6]at h pl ⊢;rw[uK]
   cases l with
   | win n=>exact pl
   | aL a b =>
    show eS (if b=e then (t'++[aR.aL a b]).dropLast++[.aL a (e+1)] else (t'++[aR.aL a b])++[.aL e (e+1)])=_/\gx (if b=e then (t'++[aR.aL a b]).dropLast++[.aL a (e+1)] else (t'++[aR.aL a b])++[.aL e (e+1)]);by_cases hb:b=e
    ·subst hb;obtain⟨a0,ab⟩:0<=a/\a<b:=h (.aL a b) (by simp);rw[if_pos rfl,List.dropLast_concat];refine⟨?_,gx.append (λi hi=>h i (sj _ hi)) (gx.one ⟨a0,Q⟩)⟩;rw[gb,gb,mC,mC,mL];congr 1;show run a (b+1-a).toNat=run a (b-a).toNat++[b];rw[show (b+1-a).toNat=(b-a).toNat+1 by lia,u7];congr 2;lia
    ·rw[if_neg hb];exact pl
def pO(es:List Int):eS (aO es)=es/\gx (aO es):=by
 have z:∀ (es:List Int) (t:List aR),gx t->eS (es.foldl bh t)=eS t++es/\gx (es.foldl bh t):=by
  intro es
  induction es with
  | nil=>intro t h;exact⟨by simp,h⟩
  | cons e es ih =>
   intro t h;let⟨h1,h2⟩:=Mf t e h;let⟨h3,h4⟩:=ih _ h2;exact⟨by rw[m7,h3,h1,mL];rfl,h4⟩
 let⟨h1,h2⟩:=z es [] (λi hi=>by cases hi);exact⟨by unfold aO;rw[h1];rfl,h2⟩
def vz(r:Row):eS (fD r)=bz r:=by
 unfold eS fD bz;rw[List.flatMap_map];rfl
def Ac{r:Row}(h:jX r):gx (fD r):=by
 intro it hm;unfold fD at hm;let⟨p,hp,rfl⟩:=List.mem_map.mp hm;exact h p hp
abbrev n8:=aR × Row × Int × Int
def d8(sh:Int->List Int)(it:aR):Row:=qb (λn=>d9 (sh n)) it
def ck(sh:Int->List Int):Int->List aR->List n8
 | _,[]=>[]
 | f,it::r=>(it,d8 sh it,f,f+jP (d8 sh it))::ck sh (f+jP (d8 sh it)) r
theorem vA(sh:Int->List Int)(b:List aR):∀ (a:List aR) (f:Int),ck sh f (a++b)=ck sh f a++ck sh (f+jP (bM sh a)) b
 | [],f=>by simp[ck,bM,jP]
 | it::a,f=>by
  rw[List.cons_append,ck,ck,vA sh b a,List.cons_append];have e:bM sh (it::a)=d8 sh it++bM sh a:=by unfold bM;rw[kG];rfl
  rw[e,zA,Int.add_assoc]
theorem Cq(sh:Int->List Int):∀ (a:List aR) (f:Int),↑(ck sh f a)=↑a
 | [],_=>rfl
 | _::a,f=>by rw[ck,kX,kX,Cq sh a]
def mD(N:Addr->Prop)(H:Hp)(v:V)(d:n8):Prop:=∃ (a ra:Addr) (x:V),v=↥a/\H a=⇑(.tup [x,↥ra,.int d.2.2.1,.int d.2.2.2])/\cH H x d.1/\cB H ra d.2.1/\N ra
theorem mD.same{N:Addr->Prop}{H H':Hp}{v:V}{d:n8}(s:aJ H H'):mD N H v d->mD N H' v d:=λ⟨a,ra,x,e,h,i,r,n⟩=>⟨a,ra,x,e,s _ _ h,i.same s,r.same s,n⟩
theorem mD.keep{N:Addr->Prop}{H H':Hp}{v:V}{d:n8}{q:Addr}{xs:List V}(hq:H q=⇑(.lst xs))(nq:∀ a,N a->a≠q)(k:cL q H H'):mD N H v d->mD N H' v d:=λ⟨a,ra,x,e,h,i,r,n⟩=>⟨a,ra,x,e,k a _ h (by
 intro z;rw[z,hq]at h
 cases h),i.keep hq k,r.keep hq (nq ra n) k,n⟩
def wZ(H:Hp)(kvs:List (eY × V))(sh:Int->List Int)(aP:List aR):Prop:=∀ n,aR.win n∈aP->∃ a,cC kvs (Sum.inl n)=⇑↥a/\cB H a (d9 (sh n))
theorem wZ.same{H H':Hp}{kvs:List (eY × V)}{sh:Int->List Int}{aP:List aR}(s:aJ H H')(h:wZ H kvs sh aP):wZ H' kvs sh aP:=λn hn=>by
 let⟨a,e,r⟩:=h n hn;exact⟨a,e,r.same s⟩
def aD(p:Int)(d:n8):List aR:=if d.2.2.2<=p then [d.1] else if p<=d.2.2.1 then [] else fD (cU (mP 0 (p-d.2.2.1) 0 d.2.1))
def bD(p:Int)(d:n8):List aR:=if d.2.2.2<=p then [] else if p<=d.2.2.1 then [d.1] else fD (cU (mP (p-d.2.2.1) (d.2.2.2-d.2.2.1) 0 d.2.1))
def aE(sh:Int->List Int)(p:Int):Int->List Int->List Int
 | _,[]=>[]
 | f,e::r=>(if f+↑(bq sh e)<=p then [e] else if p<=f then [] else (bq sh e).take (p-f).toNat)++aE sh p (f+↑(bq sh e)) r
def bE(sh:Int->List Int)(p:Int):Int->List Int->List Int
 | _,[]=>[]
 | f,e::r=>(if f+↑(bq sh e)<=p then [] else if p<=f then [e] else (bq sh e).drop (p-f).toNat)++bE sh p (f+↑(bq sh e)) r
def cF(sh:Int->List Int)(e:Int)(r:List Int):aT sh (e::r)=bq sh e++aT sh r:=by unfold aT;rw[kG]
def pP(sh:Int->List Int)(a b:List Int):aT sh (a++b)=aT sh a++aT sh b:=by unfold aT;rw[List.flatMap_append]
theorem w9(sh:Int->List Int)(p:Int)(y:List Int):∀ (x:List Int) (f:Int),aE sh p f (x++y)=aE sh p f x++aE sh p (f+↑(aT sh x)) y
 | [],f=>by simp[aE,aT]
 | e::x,f=>by
  rw[List.cons_append,aE,aE,w9 sh p y x,mL,cF,cX,Int.add_assoc]
  push_cast
  rfl
theorem xg(sh:Int->List Int)(p:Int)(y:List Int):∀ (x:List Int) (f:Int),bE sh p f (x++y)=bE sh p f x++bE sh p (f+↑(aT sh x)) y
 | [],f=>by simp[bE,aT]
 | e::x,f=>by
  rw[List.cons_append,bE,bE,xg sh p y x,mL,cF,cX,Int.add_assoc]
  push_cast
  rfl
def yX(sh:Int->List Int){e:Int}(h:0<=e):bq sh e=[e]:=by unfold bq;rw[if_neg ∅]
theorem oh(sh:Int->List Int):∀ (n:Nat) (a:Int),0<=a->aT sh (run a n)=run a n
 | 0,_,_=>rfl
 | n+1,a,h=>by rw[run,cF,yX sh h,oh sh n (a+1) ∅];rfl
theorem OR(sh:Int->List Int)(p:Int):∀ (n:Nat) (a f:Int),0<=a->aE sh p f (run a n)=(run a n).take (p-f).toNat
 | 0,_,_,_=>by simp[run,aE]
 | n+1,a,f,h=>by
  rw[run,aE,OR sh p n (a+1) _ ∅,yX sh h];show (if f+1<=p then [a] else if p<=f then [] else _)++(run (a+1) n).take (p-(f+1)).toNat=_;by_cases c:f+1<=p
  ·rw[if_pos c,show (p-f).toNat=(p-(f+1)).toNat+1 by lia];rfl
  ·rw[if_neg c,if_pos ∅,show (p-f).toNat=0 by lia,show (p-(f+1)).toNat=0 by lia];rfl
theorem OS(sh:Int->List Int)(p:Int):∀ (n:Nat) (a f:Int),0<=a->bE sh p f (run a n)=(run a n).drop (p-f).toNat
 | 0,_,_,_=>by simp[run,bE]
 | n+1,a,f,h=>by
  rw[run,bE,OS sh p n (a+1) _ ∅,yX sh h];show (if f+1<=p then [] else if p<=f then [a] else _)++(run (a+1) n).drop (p-(f+1)).toNat=_;by_cases c:f+1<=p
  ·rw[if_pos c,show (p-f).toNat=(p-(f+1)).toNat+1 by lia];rfl
  ·rw[if_neg c,if_pos ∅,show (p-f).toNat=0 by lia,show (p-(f+1)).toNat=0 by lia];rfl
def OT(sh:Int->List Int){n:Int}(h:0<=n):bq sh (-1-n)=sh n:=by
 unfold bq;rw[if_pos ∅,show -1-(-1-n)=n by lia]
def yY(sh:Int->List Int)(it:aR)(h:mY it):∀ q∈d8 sh it,q.1<=q.2:=by
 cases it with
 | win n=>exact qQ _
 | aL a b =>
  intro q hq;have:q=(a,b):=by simpa [d8,qb] using hq
  subst this;have:=h.2;show a<=b;lia
def mE(sh:Int->List Int)(it:aR)(h:mY it):bz (d8 sh it)=aT sh (gz it):=by
 cases it with
 | win n =>
  show bz (d9 (sh n))=aT sh [-1-n];rw[fZ,cF,OT sh h];simp[aT]
 | aL a b =>
  show bz [(a,b)]=aT sh (run a (b-a).toNat);rw[gp,oh sh _ _ h.1];rfl
def oj(sh:Int->List Int)(it:aR)(h:mY it):jP (d8 sh it)=↑(aT sh (gz it)):=by
 rw[← mE sh it h,rN _ (yY sh it h)]
def aaR(sh:Int->List Int)(p f:Int)(it:aR)(h:mY it):eS (aD p (it,d8 sh it,f,f+jP (d8 sh it)))=aE sh p f (gz it):=by
 have tt:=oj sh it h
 have sp:eS (fD (cU (mP 0 (p-f) 0 (d8 sh it))))=(aT sh (gz it)).take (p-f).toNat:=by
  rw[vz,zK _ _ _ (yY sh it h),mE sh it h];rfl
 unfold aD;show eS (if f+jP (d8 sh it)<=p then [it] else if p<=f then [] else fD (cU (mP 0 (p-f) 0 (d8 sh it))))=_;rw[tt]
 cases it with
 | win n =>
  have e1:aT sh (gz (.win n))=bq sh (-1-n):=by show aT sh [-1-n]=_;rw[cF];simp[aT]
  rw[e1]at sp ⊢;show _=aE sh p f [-1-n];rw[aE,aE,ic];split
  ·rfl
  ·split
   ·rfl
   ·exact sp
 | aL a b =>
  have e1:aT sh (gz (.aL a b))=run a (b-a).toNat:=oh sh _ _ h.1;rw[e1]at sp ⊢;show _=aE sh p f (run a (b-a).toNat);rw[OR sh p _ _ _ h.1];have rl:=gi a (b-a).toNat;split
  ·rename_i c;rw[mC,tK ∅];rfl
  ·split
   ·rename_i c;rw[show (p-f).toNat=0 by lia];rfl
   ·exact sp
def aaS(sh:Int->List Int)(p f:Int)(it:aR)(h:mY it):eS (bD p (it,d8 sh it,f,f+jP (d8 sh it)))=bE sh p f (gz it):=by
 have tt:=oj sh it h
 have sp:eS (fD (cU (mP (p-f) (f+jP (d8 sh it)-f) 0 (d8 sh it))))=(aT sh (gz it)).drop (p-f).toNat:=by
  rw[vz,zK _ _ _ (yY sh it h),mE sh it h,tK (by rw[tt];lia)]
 unfold bD;show eS (if f+jP (d8 sh it)<=p then [] else if p<=f then [it] else fD (cU (mP (p-f) (f+jP (d8 sh it)-f) 0 (d8 sh it))))=_;have c1:(f+jP (d8 sh it)<=p)=(f+↑(aT sh (gz it))<=p):=by rw[tt]
 simp only[c1]
 cases it with
 | win n =>
  have e1:aT sh (gz (.win n))=bq sh (-1-n):=by show aT sh [-1-n]=_;rw[cF];simp[aT]
  rw[e1]at sp ⊢;show _=bE sh p f [-1-n];rw[bE,bE,ic];split
  ·rfl
  ·split
   ·rfl
   ·exact sp
 | aL a b =>
  have e1:aT sh (gz (.aL a b))=run a (b-a).toNat:=oh sh _ _ h.1;rw[e1]at sp ⊢;show _=bE sh p f (run a (b-a).toNat);rw[OS sh p _ _ _ h.1];have rl:=gi a (b-a).toNat;split
  ·rename_i c;rw[List.drop_of_length_le ∅];rfl
  ·split
   ·rename_i c;rw[mC,show (p-f).toNat=0 by lia];rfl
   ·exact sp
theorem FL(sh:Int->List Int)(p:Int):∀ (aP:List aR) (f:Int),gx aP->eS ((ck sh f aP).flatMap (aD p))=aE sh p f (eS aP)
 | [],f,_=>rfl
 | it::r,f,h=>by
  have h1:=h it (by simp);rw[ck,kG,gb,aaR sh p f it h1,FL sh p r _ λi hi=>h i (oE _ hi)];have e:eS (it::r)=gz it++eS r:=by unfold eS;rw[kG]
  rw[e,w9,oj sh it h1]
theorem Cr(sh:Int->List Int)(p:Int):∀ (aP:List aR) (f:Int),gx aP->eS ((ck sh f aP).flatMap (bD p))=bE sh p f (eS aP)
 | [],f,_=>rfl
 | it::r,f,h=>by
  have h1:=h it (by simp);rw[ck,kG,gb,aaS sh p f it h1,Cr sh p r _ λi hi=>h i (oE _ hi)];have e:eS (it::r)=gz it++eS r:=by unfold eS;rw[kG]
  rw[e,xg,oj sh it h1]
def WQ(sh:Int->List Int)(aP:List aR):Prop:=∀ n,aR.win n∈aP->∀ x∈sh n,0<=x
def Ss(sh:Int->List Int)(it:aR)(h:mY it)(g:∀ n,it=.win n->∀ x∈sh n,0<=x):pX (d8 sh it):=by
 cases it with
 | win n=>exact (LF (g n rfl)).nn
 | aL a b =>
  intro q hq;have:q=(a,b):=by simpa [d8,qb] using hq
  subst this;exact⟨h.1,by have:=h.2;show a<=b;lia⟩
theorem Dw(sh:Int->List Int):∀ (aP:List aR) (f:Int),gx aP->WQ sh aP->∀ d∈ck sh f aP,mY d.1/\pX d.2.1
 | [],_,_,_=>λd hd=>by cases hd
 | it::r,f,h,g=>by
  intro d hd;rw[ck]at hd;rcases List.mem_cons.mp hd with rfl|z
  ·exact⟨h it (by simp),Ss sh it (h it (by simp)) λn e=>g n (by rw[e];simp)⟩
  ·exact Dw sh r _ (λi hi=>h i (oE _ hi)) (λn hn=>g n (oE _ hn)) d z
theorem FN{a b:Int}{r:Row}(h:pX r):gx (fD (cU (mP a b 0 r))):=Ac (wR (Dk a b r 0 h))
def aaT{p:Int}{d:n8}(h:mY d.1)(g:pX d.2.1):gx (aD p d):=by
 unfold aD;split
 ·exact gx.one h
 ·split
  ·exact λi hi=>by cases hi
  ·exact FN g
def aaU{p:Int}{d:n8}(h:mY d.1)(g:pX d.2.1):gx (bD p d):=by
 unfold bD;split
 ·exact λi hi=>by cases hi
 ·split
  ·exact gx.one h
  ·exact FN g
theorem Dy{g:n8->List aR}{l:List n8}(h:∀ d∈l,gx (g d)):gx (l.flatMap g):=λit hm=>by
 let⟨d,hd,hm⟩:=List.mem_flatMap.mp hm;exact h d hd it hm
def Km(r:Row):↑(fD r)=↑r:=by unfold fD;rw[cy]
def xj(a b:Int)(r:Row):↑(fD (cU (mP a b 0 r)))<=↑r:=by
 rw[Km];exact jv (rQ _) (nG a b r 0)
theorem Ad(sh:Int->List Int){g:n8->List aR}(hg:∀ d,↑(g d)<=↑d.2.1+1):∀ (aP:List aR) (f:Int),↑((ck sh f aP).flatMap g)<=↑(bM sh aP)+↑aP
 | [],_=>by simp[ck]
 | it::r,f=>by
  rw[ck,kG,cX];have a:=hg (it,d8 sh it,f,f+jP (d8 sh it));have b:=Ad sh hg r (f+jP (d8 sh it));have e:bM sh (it::r)=d8 sh it++bM sh r:=by unfold bM;rw[kG];rfl
  rw[e,cX,kX];simp only at a;lia
def WR(p:Int)(d:n8):↑(aD p d)<=↑d.2.1+1:=by
 unfold aD;split
 ·simp
 ·split
  ·simp
  ·exact jv (xj _ _ _) ∅
def WS(p:Int)(d:n8):↑(bD p d)<=↑d.2.1+1:=by
 unfold bD;split
 ·simp
 ·split
  ·simp
  ·exact jv (xj _ _ _) ∅
def iO{α β:Type}(g:α->List β)(l:List α)(i:Nat):↑((l.take i).flatMap g)<=↑(l.flatMap g):=by
 have e:l.flatMap g=(l.take i).flatMap g++(l.drop i).flatMap g:=by rw[← List.flatMap_append,List.take_append_drop]
 rw[e,cX];lia
def rT{α β:Type}(g:α->List β){l:List α}{i:Nat}{a:α}(h:l[i]?=⇑a):(l.take (i+1)).flatMap g=(l.take i).flatMap g++g a:=by
 rw[take_snoc h,List.flatMap_append];simp
def vB(sh:Int->List Int){aP:List aR}{it:aR}(h:it∈aP):↑(d8 sh it)<=↑(bM sh aP):=by
 let⟨a,b,rfl⟩:=List.append_of_mem h;rw[fC];have e:bM sh (it::b)=d8 sh it++bM sh b:=by unfold bM;rw[kG];rfl
 rw[e,cX,cX];lia
def Kn(A B:Addr)(H H':Hp):Prop:=∀ a o,H a=⇑o->a≠A->a≠B->H' a=⇑o
theorem Kn.tup{A B:Addr}{H H':Hp}{xs ys:List V}(k:Kn A B H H')(hA:H A=⇑(.lst xs))(hB:H B=⇑(.lst ys)):∀ a zs,H a=⇑(.tup zs)->H' a=⇑(.tup zs):=λa zs h=>k a _ h (λz=>by
 rw[z,hA]at h;cases h) (λz=>by
 rw[z,hB]at h
 cases h)
theorem cH.tups{H H':Hp}{v:V}{it:aR}(t:∀ a xs,H a=⇑(.tup xs)->H' a=⇑(.tup xs)):cH H v it->cH H' v it:=λ⟨a,e,h⟩=>⟨a,e,t a _ h⟩
theorem mD.Us{N:Addr->Prop}{A B:Addr}{H H':Hp}{v:V}{d:n8}{xs ys:List V}(hA:H A=⇑(.lst xs))(hB:H B=⇑(.lst ys))(n:∀ a,N a->a≠A/\a≠B)(k:Kn A B H H'):mD N H v d->mD N H' v d:=λ⟨a,ra,x,e,h,i,⟨as,hr,hp⟩,hn⟩ =>
 ⟨a,ra,x,e,k.tup hA hB _ _ h,i.tups (k.tup hA hB),⟨as,k _ _ hr (n ra hn).1 (n ra hn).2,hp.tups (k.tup hA hB)⟩,hn⟩
def bV.app{α β:Type}{R:α->β->Prop}{as cs:List α}{bs ds:List β}(h:bV R as bs)(t:bV R cs ds):bV R (as++cs) (bs++ds):=by
 induction h with
 | nil=>exact t
 | cons e _ ih=>exact .cons e ih
structure lg(H1:Hp)(A B:Addr)(l1 l2:List aR)(H2:Hp):Prop where
 a:∃ vs,H2 A=⇑(.lst vs)/\bV (cH H2) vs l1
 b:∃ vs,H2 B=⇑(.lst vs)/\bV (cH H2) vs l2
 k:Kn A B H1 H2
def lg.same{H1 H2 H3:Hp}{A B:Addr}{l1 l2:List aR}(p:lg H1 A B l1 l2 H2)(s:aJ H2 H3):lg H1 A B l1 l2 H3:=by
 let⟨⟨v1,h1,t1⟩,⟨v2,h2,t2⟩,k⟩:=p;exact⟨⟨v1,s _ _ h1,t1.mono λ_ _ h=>h.same s⟩,⟨v2,s _ _ h2,t2.mono λ_ _ h=>h.same s⟩,λa o e n m=>s _ _ (k a o e n m)⟩
def lg.Ko{H1 H2:Hp}{A B:Addr}{l1 l2 l3:List aR}{v1 v3:List V}(p:lg H1 A B l1 l2 H2)(n:A≠B)(h1:H2 A=⇑(.lst v1))(t3:bV (cH H2) v3 l3):lg H1 A B (l1++l3) l2 (aM H2 A (.lst (v1++v3))):=by
 let⟨⟨v1',h1',t1⟩,⟨v2,h2,t2⟩,k⟩:=p;rw[h1]at h1';cases h1';have kp:∀ v i,cH H2 v i->cH (aM H2 A (.lst (v1++v3))) v i:=λv i h=>h.keep h1 (aK A _ _);refine⟨⟨_,ah,(t1.mono kp).app (t3.mono kp)⟩,⟨v2,by rw[aG n.symm];exact h2,t2.mono kp⟩,λa o e m1 m2=>?_⟩;rw[aG m1];exact k a o e m1 m2
def lg.Kp{H1 H2:Hp}{A B:Addr}{l1 l2 l3:List aR}{v2 v3:List V}(p:lg H1 A B l1 l2 H2)(n:A≠B)(h2:H2 B=⇑(.lst v2))(t3:bV (cH H2) v3 l3):lg H1 A B l1 (l2++l3) (aM H2 B (.lst (v2++v3))):=by
 let⟨⟨v1,h1,t1⟩,⟨v2',h2',t2⟩,k⟩:=p;rw[h2]at h2';cases h2';have kp:∀ v i,cH H2 v i->cH (aM H2 B (.lst (v2++v3))) v i:=λv i h=>h.keep h2 (aK B _ _);refine⟨⟨v1,by rw[aG n];exact h1,t1.mono kp⟩,⟨_,ah,(t2.mono kp).app (t3.mono kp)⟩,λa o e m1 m2=>?_⟩;rw[aG m2];exact k a o e m1 m2
def FO{af:cD}{sh:Int->List Int}(rS:fJ af)(wX:sW af)(BL:qc af sh):∀ x:Int,0<=x->x<↑af->∀ y∈sh x,0<=y:=by
 let⟨rk,hb,hd⟩:=wX
 have key:∀ (k:Nat) (x:Int),rk x<k->0<=x->x<↑af->∀ y∈sh x,0<=y:=by
  intro k
  induction k with
  | zero=>intro x h;lia
  | succ k ih =>
   intro x hx x0 x1 y hy;have he:af[x.toNat]?=⇑af[x.toNat]:=qB ∅;rw[BL x _ x0 he]at hy;unfold aT at hy;let⟨e,hm,hy⟩:=List.mem_flatMap.mp hy;unfold bq at hy;by_cases c:e<0
   ·rw[if_pos c]at hy;have nx:jf af x (-1-e):=⟨x0,_,he,bu.mpr ⟨Q,by rw[show -1-(-1-e)=e by lia];exact hm⟩⟩;let⟨a,b⟩:=rS.Fq nx;have:=hd _ _ nx;exact ih _ ∅ a b y hy
   ·rw[if_neg c]at hy;rw[List.mem_singleton.mp hy];lia
 exact λx=>key (rk x+1) x (Nat.lt_succ_self _)
def yZ{af:cD}{s n:Int}{es:List Int}(h0:0<=s)(he:af[s.toNat]?=⇑es)(h:aR.win n∈aO es):jf af s n:=by
 exists h0,es,he;rw[← iM];unfold eZ;rw[List.mem_filterMap];exact⟨.win n,h,rfl⟩
structure uz(H:Hp)(r:Addr)(af:cD)(sh:Int->List Int):Prop where
 at_:gr H r (af.map aO)
 len:↑af<=1000
 ents:∀ es∈af,↑es<=1000
 snd:fJ af
 rk:sW af
 shw:qc af sh
 bd:∀ x:Int,0<=x->x<↑af->↑(sh x)<=10000
theorem uz.same{H H':Hp}{r:Addr}{af:cD}{sh:Int->List Int}(s:aJ H H')(h:uz H r af sh):uz H' r af sh:={ h with at_:=h.at_.same s }
structure aaW(H:Hp)(r:Addr)(af:cD)(sh:Int->List Int)(s:Int)(es:List Int)(yc:List V)(b:Addr):Prop where
 he:af[s.toNat]?=⇑es
 hr:H r=⇑(.lst yc)
 ix:qF yc s=⇑↥b
 it:bR H ↥b (aO es)
 il:↑(aO es)<=1000
 rl:↑(bM sh (aO es))<=10000
 tt:jP (d9 (sh s))=↑(sh s)
 se:sh s=aT sh es
def uz.one{H:Hp}{r:Addr}{af:cD}{sh:Int->List Int}{s:Int}(h:uz H r af sh)(h0:0<=s)(h1:s<↑af):∃ es yc b,aaW H r af sh s es yc b:=by
 have eO:af[s.toNat]?=⇑af[s.toNat]:=qB ∅;let⟨yc,Kg,pY⟩:=h.at_;let⟨vi,Dt,hI⟩:=pY.get' (i:=s.toNat) (b:=aO af[s.toNat]) (by rw[gf,eO];rfl);let⟨b,Qo,rfl,hb,uh⟩:=id hI;have z:=dF Dt;rw[show ((s.toNat:Nat):Int)=s by lia]at z;have hil:=nY af[s.toNat] [];have hel:=h.ents _ (oA eO);let⟨Hz,hok⟩:=Ab sh af[s.toNat];have se:=h.shw s _ h0 eO;refine⟨_,yc,b,eO,Kg,z,hI,?_,?_,?_,se⟩
 ·show ↑(af[s.toNat].foldl bh [])<=_;simp only[qp]at hil;lia
 ·have q:=uy sh (aO af[s.toNat]) hok;rw[Hz,← se]at q;have:=h.bd s h0 h1;lia
 ·rw[← rN _ (qQ _),fZ]
def rV(ns:List Int):↑(d9 ns)<=↑ns:=by
 have z:=zF ns [];simpa [d9] using z
def eV(sh:Int->List Int)(p:Int)(es new:List Int):List Int:=if new=[] then es else aE sh p 0 es++new++bE sh p 0 es
class inductive Su
 | mk (r S:Addr) (aP:List aR) (kvs:List (eY × V)) (sh:Int->List Int) (N:Addr->Prop) (_:vs=[↥r,↥S]) (_:bR H ↥r aP) (_:H S=⇑(.dK kvs)) (_:wZ H kvs sh aP) (_:↑aP<=100000) (_:(∀ it∈aP,↑(d8 sh it)<=100000)) (_:(∀ n a,aR.win n∈aP->cC kvs (Sum.inl n)=⇑↥a->N a)) (_:(∀ a,H a=none->N a)) (_ :
 ∀ (o:Addr) (Di:List V) (H':Hp),H' o=⇑(.lst Di)->bV (mD N H') Di (ck sh 0 aP)->aJ H H'->H o=none->Q ↥o H')
theorem pQ:aH ["items","views","told","first","item","row","last"] ["items","views"] (aB HP):=fc
theorem FP:‹(2,23,["items","views"],Su)›:=λD=>by
 specialize fH D.Wq.F pQ;let⟨r,S,aP,kvs,sh,N,rfl,⟨r',Qo,e,hr1,uh⟩,hS,hW,cZ,hrl,nW,nN,k⟩:=h;cases e;exists _,(ao (aW (i:=2) pQ.nd (bO aj)) (ao (aW (i:=3) pQ.nd aC) (ao (dN PassesOwn.never rfl (cz (pv 0)) (bW (i:=4) pQ.nd) (ao (aW (i:=5) pQ.nd (aI D.Wm (yd D) hr (aa (pv 4) (aa (pv 1) aj)))) (ao (aW (i:=6) pQ.nd (bJ eU (pv 3) (dX.vj D.Wh (D.T.nI _ D.Wh.m) (Dq D) hr (aa (pv 5) aj)))) (ao (aV (dI qm jQ jR bT (pv 2) (aa (eL (aa (pv 4) (aa (pv 5) (aa (pv 3) (aa (pv 6) aj))))) aj))) (ay (aW (i:=3) pQ.nd (pv 6))))))) (ay (aN (pv 2))))));refine⟨iZ,λq hq=>?_⟩;have s0:aJ H (aM H q (.lst [])):=au hq _;refine⟨Y,r,rfl,⟨_,bC.of (s0 _ _ hr1)⟩,dz (K:=K) (a:=r) (xs:=Qo) (λi σ H2=>∃ (vs:List V) (u1 u2 u3:Option V),σ=[⇑↥r,⇑↥S,⇑↥q,⇑(.int (0+jP (bM sh (aP.take i)))),u1,u2,u3]/\H2 q=⇑(.lst vs)/\bV (mD (λa=>N a/\a≠q) H2) vs (ck sh 0 (aP.take i))/\aJ H H2) ⟨[],none,none,none,rfl,ah,.nil,s0⟩ (by rintro i σ H2 _ ⟨_,_,_,_,_,_,_,s⟩;exact bC.of (s _ _ hr1)) ?_ ?_⟩
 ·rintro i x σ H2 hi ⟨vs,u1,u2,u3,rfl,eK,hb,s⟩;let⟨it,ei,hiv⟩:=uh.get hi;have im:=oA ei;have bl:=hb.len;rw[Cq,gO]at bl;refine⟨Y,Y,x,it,S,kvs,λn=>d9 (sh n),rfl,hiv.same s,s _ _ hS,λn hn=>(hW.same s) n (by rw[← hn];exact im),λa H3 R3 s3 w3=>?_⟩
  have na:N a/\a≠q:=by
   rcases w3 with ⟨n,rfl,hv⟩|h0
   ·exists nW n a im hv;let⟨b,FD,⟨as,WT,_⟩⟩:=hW n im;rw[hv]at FD;cases FD;exact az WT hq
   ·exact⟨nN a (aU s h0),(az eK h0).symm⟩
  refine⟨Y,Y,a,d8 sh it,rfl,R3,jv (hrl it im) (by decide),λH4 s4=>⟨Z,?_⟩⟩;have MT:=s4 _ _ (s3 _ _ eK);refine⟨Y,.inl ⟨rfl,_,bC.of MT⟩,Y,Y,Y,Y,LM,λt ht=>?_⟩;have hq5:=au ht (.tup [x,↥a,.int (0+jP (bM sh (aP.take i))),.int (0+jP (bM sh (aP.take i))+jP (d8 sh it))]) _ _ MT;refine⟨q,Z,hq5,aQ ∅,?_⟩;refine⟨Y,_,⇑x,⇑↥a,⇑(.int (0+jP (bM sh (aP.take i))+jP (d8 sh it))),?_,ah,?_,bQ hq (s.trans (s3.trans (s4.trans (au ht _)))) (aK q _ _)⟩
  ·have e:bM sh (aP.take (i+1))=bM sh (aP.take i)++d8 sh it:=by rw[take_snoc ei,fC,j0];rfl
   rw[e,zA,← Int.add_assoc];rfl
  ·have e:ck sh 0 (aP.take (i+1))=ck sh 0 (aP.take i)++[(it,d8 sh it,0+jP (bM sh (aP.take i)),0+jP (bM sh (aP.take i))+jP (d8 sh it))]:=by rw[take_snoc ei,vA];rfl
   rw[e];have VB:t≠q:=(az MT ht).symm;refine bV.snoc (hb.mono λv d h=>(((h.same s3).same s4).same (au ht _)).keep hq5 (λa h=>h.2) (aK q _ _)) ⟨t,a,x,rfl,?_,?_,?_,na⟩
   ·rw[aG VB,ah]
   ·exact ((((hiv.same s).same s3).same s4).same (au ht _)).keep hq5 (aK q _ _)
   ·exact (((R3.same s4).same (au ht _))).keep hq5 na.2 (aK q _ _)
 ·rintro σ H2 ⟨vs,u1,u2,u3,rfl,eK,hb,s⟩;rw[uh.len,gP]at hb;exact⟨Y,k q vs H2 eK (hb.mono λv d ⟨a,ra,x,e,h,i,r,n⟩=>⟨a,ra,x,e,h,i,r,n.1⟩) s hq⟩
class inductive IJ
 | mk (r S o:Addr) (p:Int) (aP MQ:List aR) (kvs:List (eY × V)) (sh:Int->List Int) (_:vs=[↥r,↥S,.int p,↥o]) (_:bR H ↥r aP) (_:H S=⇑(.dK kvs)) (_:wZ H kvs sh aP) (_:bR H ↥o MQ) (_:gx aP) (_:gx MQ) (_:WQ sh aP) (_:↑aP<=50000) (_:↑(bM sh aP)<=50000) (_:MQ.length<=50000) (_ :
 ∀ (q:Addr) (H':Hp),bR H' ↥q (aO (aE sh p 0 (eS aP)++eS MQ++bE sh p 0 (eS aP)))->aJ H H'->H q=none->Q ↥q H')
theorem gc:aH ["items","views","place","others","ahead","behind","item","row","first","last"] ["items","views","place","others"] (aB tV):=fc
theorem Dz:‹(3,24,["items","views","place","others"],IJ)›:=λD=>by
 specialize fH D.ZT.F gc;let⟨r,S,o,p,aP,MQ,kvs,sh,rfl,hI,hS,hW,hO,ok1,ok2,nn,l1,l2,l3,k⟩:=h;exists _,(ao (aW (i:=4) gc.nd (bO aj)) (ao (aW (i:=5) gc.nd (bO aj)) (ao (dN PassesOwn.never rfl (cz (aI D.Wq (FP D) hr (aa (pv 0) (aa (pv 1) aj)))) (oM (n:=4) rfl (b9 (bW (i:=6) gc.nd) (b9 (bW (i:=7) gc.nd) (b9 (bW (i:=8) gc.nd) (b9 (bW (i:=9) gc.nd) iI))))) (ay (bS (br gy (pv 9) (pv 2) (bx _)) (ay (aV (dI qm jQ jR bT (pv 4) (aa (pv 6) aj)))) (ay (bS (br gy (pv 2) (pv 8) (bx _)) (ay (aV (dI qm jQ jR bT (pv 5) (aa (pv 6) aj)))) (ao (v9 (i:=4) gc.nd rfl (Or.inl rfl) (aI D.LO (qW D) hr (aa (aI D.X6 (wV D) hr (aa (pv 7) (aa aC (aa (bJ cS (pv 2) (pv 8)) aj)))) aj)) wQ) (ay (v9 (i:=5) gc.nd rfl (Or.inl rfl) (aI D.LO (qW D) hr (aa (aI D.X6 (wV D) hr (aa (pv 7) (aa (bJ cS (pv 2) (pv 8)) (aa (bJ cS (pv 9) (pv 8)) aj)))) aj)) wQ)))))))) (ay (aN (aI D.OB (jI D) hr (aa (bJ jC (bJ jC (pv 4) (pv 3)) (pv 5)) aj)))))));refine⟨iZ,λA hA=>⟨iZ,λB hB=>?_⟩⟩;have sA:aJ H (aM H A (.lst [])):=au hA _;have sB:aJ _ (aM (aM H A (.lst [])) B (.lst [])):=au hB _;have s0:=sA.trans sB;have AS:A≠B:=az ah hB;have MU:=aU sA hB;refine⟨Y,Y,r,S,aP,kvs,sh,λa=>a≠A/\a≠B,rfl,hI.same s0,s0 _ _ hS,hW.same s0,Q,(λit hi=>by have:=vB sh hi;lia),?_,?_,λD dv H1 hD QX s1 _=>?_⟩
 ·intro n a hn hv;let⟨b,e,as,hb,_⟩:=hW n hn;rw[hv]at e;cases e;exact⟨az hb hA,az hb MU⟩
 ·intro a ha;exact⟨(az (sB _ _ ah) ha).symm,(az ah ha).symm⟩
 have hA1:=s1 _ _ (sB _ _ (ah (H:=H) (a:=A) (o:=.lst [])));have hB1:=s1 _ _ (ah (H:=aM H A (.lst [])) (a:=B) (o:=.lst []))
 have nD:D≠A/\D≠B:=by
  rename_i hD0;exact⟨(az (sB _ _ ah) hD0).symm,(az ah hD0).symm⟩
 have aeT:=Ad sh (WR p) aP 0;have aeU:=Ad sh (WS p) aP 0;have WU:=Dw sh aP 0 ok1 nn;refine⟨D,rfl,⟨_,bC.of hD⟩,dz (K:=K) (a:=D) (xs:=dv) (λi σ H2=>∃ u1 u2 u3 u4:Option V,σ=[⇑↥r,⇑↥S,⇑(.int p),⇑↥o,⇑↥A,⇑↥B,u1,u2,u3,u4]/\lg H1 A B (((ck sh 0 aP).take i).flatMap (aD p)) (((ck sh 0 aP).take i).flatMap (bD p)) H2) ⟨none,none,none,none,rfl,⟨_,hA1,.nil⟩,⟨_,hB1,.nil⟩,λ_ _ e _ _=>e⟩ (by rintro i σ H2 _ ⟨_,_,_,_,_,pv⟩;exact bC.of (pv.k _ _ hD nD.1 nD.2)) ?_ ?_⟩
 ·rintro i x σ H2 hi ⟨u1,u2,u3,u4,rfl,pv⟩;let⟨d,ed,VS⟩:=QX.get hi;have hd2:=VS.Us hA1 hB1 (λa h=>h) pv.k;let⟨a,ra,xi,rfl,hta,hxi,Yb,nra⟩:=hd2;have eA:=rT (aD p) ed;have eB:=rT (bD p) ed;have bA:=iO (aD p) (ck sh 0 aP) i;have bB:=iO (bD p) (ck sh 0 aP) i;have bA1:=iO (aD p) (ck sh 0 aP) (i+1);have bB1:=iO (bD p) (ck sh 0 aP) (i+1);let⟨v1,hv1,t1⟩:=pv.a;let⟨v2,hv2,t2⟩:=pv.b;have z1:=t1.len;have z2:=t2.len;let⟨it,row,fi,la⟩:=d
  have rl:↑row<=50000:=by
   have z:=oA ed
   have:∃ Q9∈aP,row=d8 sh Q9:=by
    have q:∀ (aP:List aR) (f:Int),(it,row,fi,la)∈ck sh f aP->∃ Q9∈aP,row=d8 sh Q9:=by
     intro aP
     induction aP with
     | nil=>intro f h;cases h
     | cons i0 r0 ih =>
      intro f h;rw[ck]at h;rcases List.mem_cons.mp h with e|e
      ·cases e;exact⟨it,by simp,rfl⟩
      ·let⟨i1,m1,e1⟩:=ih _ e;exact⟨i1,oE _ m1,e1⟩
    exact q aP 0 z
   let⟨i1,m1,rfl⟩:=this;have:=vB sh m1;lia
  exists a,Y,gV.of hta,rfl,P,rfl,P,rfl,P,rfl,Z;refine⟨Y,Y,Z,Y,cT (λc=>?_) (λc=>?_)⟩
  ·have c':la<=p:=of_decide_eq_true c;refine⟨Y,.inl ⟨rfl,_,bC.of hv1⟩,Y,A,Z,hv1,aQ ∅,?_⟩;exists K,Y;rw[eA,eB];have e1:aD p (it,row,fi,la)=[it]:=by unfold aD;rw[if_pos c']
   have e2:bD p (it,row,fi,la)=[]:=by unfold bD;rw[if_pos c']
   rw[e1,e2,ic];exact pv.Ko AS hv1 (.cons hxi .nil)
  ·have c':¬ la<=p:=λz=>c (decide_eq_true z);refine⟨Y,Y,Z,Y,cT (λc2=>?_) (λc2=>?_)⟩
   ·have Mg:p<=fi:=of_decide_eq_true c2;refine⟨Y,.inl ⟨rfl,_,bC.of hv2⟩,Y,B,Z,hv2,aQ ∅,?_⟩;exists K,Y;rw[eA,eB];have e1:aD p (it,row,fi,la)=[]:=by unfold aD;rw[if_neg c',if_pos Mg]
    have e2:bD p (it,row,fi,la)=[it]:=by unfold bD;rw[if_neg c',if_pos Mg]
    rw[e1,e2,ic];exact pv.Kp AS hv2 (.cons hxi .nil)
   ·have Mg:¬ p<=fi:=λz=>c2 (decide_eq_true z);have e1:aD p (it,row,fi,la)=fD (cU (mP 0 (p-fi) 0 row)):=by unfold aD;rw[if_neg c',if_neg Mg]
    have e2:bD p (it,row,fi,la)=fD (cU (mP (p-fi) (la-fi) 0 row)):=by unfold bD;rw[if_neg c',if_neg Mg]
    rw[eA,e1,cX]at bA1;rw[eB,e2,cX]at bB1;refine⟨Y,Y,Y,Y,Z,ra,row,0,p-fi,rfl,Yb,Q,λq1 H3 R3 s3 Yc=>⟨q1,Y,R3,jv (nG _ _ _ _) ∅,λq2 H4 I4 s4 eK=>?_⟩⟩;let⟨q2',v3,e3,h3,t3⟩:=I4;cases e3;have z3:=t3.len;have Mh:=s4 _ _ (s3 _ _ hv1);refine⟨A,q2,Z,Mh,h3,gQ (aQ ∅),?_⟩;have pv5:=((pv.same s3).same s4).Ko AS Mh t3;have ae0:cB (aM H4 A (.lst (v1++v3))) ra row:=((Yb.same s3).same s4).keep Mh nra.1 (aK A _ _);have ae1:(aM H4 A (.lst (v1++v3))) B=⇑(.lst v2):=by rw[aG AS.symm];exact s4 _ _ (s3 _ _ hv2)
    refine⟨Y,Y,Y,Y,Z,Y,Y,Z,ra,row,p-fi,la-fi,rfl,ae0,Q,λq3 H6 R6 s6 G6=>⟨q3,Y,R6,jv (nG _ _ _ _) ∅,λq4 H7 I7 s7 MT=>?_⟩⟩;let⟨q4',v4,e4,h4,t4⟩:=I7;cases e4;have z4:=t4.len;have Ut:=s7 _ _ (s6 _ _ ae1);refine⟨B,q4,Z,Ut,h4,gQ (aQ ∅),?_⟩;exists K,Y;rw[eA,eB,e1,e2];exact ((pv5.same s6).same s7).Kp AS Ut t4
 ·rintro σ H2 ⟨u1,u2,u3,u4,rfl,pv⟩;have dl:=QX.len;rw[dl,gP]at pv;let⟨v1,hv1,t1⟩:=pv.a;let⟨v2,hv2,t2⟩:=pv.b;have z1:=t1.len;have z2:=t2.len;have sm:aJ H H2:=λa ob e=>pv.k a ob (s1 _ _ (s0 _ _ e)) (az e hA) (az e MU);let⟨o',v3,e3,h3,t3⟩:=hO.same sm;cases e3;have z3:=t3.len;refine⟨Y,Y,A,o,Z,hv1,h3,gQ (aQ ∅),λc1 X7=>?_⟩;have n1:aJ H2 (aM H2 c1 (.lst (v1++v3))):=au X7 _;refine⟨Y,c1,B,Z,ah,n1 _ _ hv2,gQ (aQ (by rw[cX];lia)),λc2 WV=>?_⟩;have n2:aJ _ (aM (aM H2 c1 (.lst (v1++v3))) c2 (.lst (v1++v3++v2))):=au WV _;have Vz:=n1.trans n2;refine⟨c2,Y,⟨c2,Y,ah,((t1.app t3).app t2).mono λv i h=>h.same Vz⟩,by rw[cX,cX];lia,λq H9 I9 s9 hq9=>?_⟩;have okA:gx ((ck sh 0 aP).flatMap (aD p)):=Dy λd hd=>aaT (WU d hd).1 (WU d hd).2;have okB:gx ((ck sh 0 aP).flatMap (bD p)):=Dy λd hd=>aaU (WU d hd).1 (WU d hd).2;rw[mZ _ ((okA.append ok2).append okB),gb,gb,FL sh p aP 0 ok1,Cr sh p aP 0 ok1]at I9;exact k q H9 I9 (sm.trans (Vz.trans s9)) (aU (sm.trans Vz) hq9)
class inductive ye
 | mk (r o:Addr) (af:cD) (s p:Int) (aP:List aR) (sh:Int->List Int) (_:vs=[↥r,.int s,.int p,↥o]) (_:uz H r af sh) (_:0<=s) (_:s<↑af) (_:bR H ↥o aP) (_:gx aP) (_:↑aP<=10000) (_:0<=p/\p<=↑(sh s)) (_:(∀ (es:List Int) (q:Addr) (H':Hp),af[s.toNat]?=⇑es->bR H' ↥q (aO (eV sh p es (eS aP)))->aJ H H'->H q=none->Q ↥q H'))
def OU{aP:List aR}(h:gx aP):eS aP=[]↔aP=[]:=by
 refine⟨λe=>?_,λe=>by rw[e];rfl⟩
 cases aP with
 | nil=>rfl
 | cons it r =>
  have e1:eS (it::r)=gz it++eS r:=by unfold eS;rw[kG]
  rw[e1]at e;have e2:=(List.append_eq_nil_iff.mp e).1
  cases it with
  | win n=>cases e2
  | aL a b =>
   have ab:a<b:=(h (.aL a b) (by simp)).2;have:=gi a (b-a).toNat;have e3:run a (b-a).toNat=[]:=e2;rw[e3]at this;simp only[qp]at this;lia
theorem yf:aH ["rows","sheet","place","items","views"] ["rows","sheet","place","items"] (aB tW):=fc
theorem vC:‹(4,25,["rows","sheet","place","items"],ye)›:=λD=>by
 refine fH D.Wr.F yf λcJ A zn s0 H vs Q E hr h=>?_;let⟨r,o,af,s,p,aP,sh,rfl,R,h0,h1,hO,ok,ol,hp,k1⟩:=h;have hu:=gF hr;refine⟨_,(ao (aW (i:=4) yf.nd (aI D.RX (mz D) hr (aa (pv 0) (aa (bO (aa (pv 1) aj)) aj)))) (ao (aV (aI D.dq6 (kQ D) hr (aa (gJ hu (pv 4) (pv 1)) (aa (pv 2) (aa (pv 2) aj))))) (ao (bS (gg (lO (pv 3) (λ_=>rfl))) (ay (aN (aI D.OB (jI D) hr (aa (bI bw (pv 0) (pv 1)) aj)))) bG) (ay (aN (aI D.ZT (Dz D) hr (aa (bI bw (pv 0) (pv 1)) (aa (pv 4) (aa (pv 2) (aa (pv 3) aj)))))))))),?_⟩;refine⟨Y,Y,jY,λL hL=>?_⟩;have s1:aJ H (aM H L (.lst [.int s])):=au hL _;refine⟨r,L,af,[s],sh,rfl,R.at_.same s1,ah,by simp,R.len,R.ents,R.snd,R.rk,(λx hx=>by rw[List.mem_singleton.mp hx];exact⟨h0,h1⟩),R.shw,R.bd,λS kvs ks H2 hS hv tp sk hn s2 hS0=>?_⟩;have sk1:=sk s (by simp);let⟨a,ha,Ra⟩:=hv s sk1;have z:=jw.k (k:=Sum.inl s) hS;rw[ha]at z;have mO:=s1.trans s2;have shl:=R.bd s h0 h1;have rol:=rV (sh s);let⟨es,yc,b,O⟩:=(R.same mO).one h0 h1;refine⟨Y,Y,S,Y,z,Y,Y,a,d9 (sh s),p,p,rfl,Ra,Q,⟨hp.1,Int.le_refl _,by rw[O.tt];exact hp.2⟩,λH3 s3=>?_⟩
 ·let⟨rK,ae2,b',O3⟩:=(R.same (mO.trans s3)).one h0 h1;have ee:es=rK:=qC (O.he.symm.trans O3.he);subst ee;have hO3:=hO.same (mO.trans s3);let⟨o',ovs,eo,ho,to⟩:=id hO3;cases eo;exists Y,!ovs.isEmpty,.inl ⟨_,bC.of ho,rfl⟩;have el:=to.len
  cases aP with
  | nil =>
   have:ovs=[]:=List.eq_nil_of_length_eq_zero (by simpa using el);subst this;refine ji ?_;refine⟨Y,Y,r,K,V,bC.of O3.hr,O3.ix,b',aO es,rfl,O3.it,jv O3.il (by decide),λq H4 I4 s4 hq=>?_⟩;refine k1 es q H4 O.he ?_ (mO.trans (s3.trans s4)) (aU (mO.trans s3) hq);let⟨e1,e2⟩:=pO es;rw[mZ _ e2,e1]at I4;exact I4
  | cons it r0 =>
   have:(!ovs.isEmpty)=true:=by
    cases ovs with
    | nil=>simp at el
    | cons _ _=>rfl
   rw[this];refine dM ?_;refine⟨Y,Y,r,K,V,bC.of O3.hr,O3.ix,Y,Y,Y,b',S,o,p,aO es,it::r0,kvs,sh,rfl,O3.it,s3 _ _ hS,λn hn=>?_,hO3,(pO es).2,ok,λn hn=>?_,jv O3.il (by decide),jv O3.rl (by decide),jv ol (by decide),λq H4 I4 s4 hq=>?_⟩
   ·have nx:=yZ h0 O.he hn;let⟨i,hi⟩:=List.getElem?_of_mem sk1;let⟨a2,e2,R2⟩:=hv n (List.mem_of_mem_take (tp.dn i s hi n nx));exact⟨a2,e2,R2.same s3⟩
   ·have nx:=yZ h0 O.he hn;let⟨n0,n1⟩:=R.snd.Fq nx;exact FO R.snd R.rk R.shw n n0 n1
   ·refine k1 es q H4 O.he ?_ (mO.trans (s3.trans s4)) (aU (mO.trans s3) hq);rw[(pO es).1]at I4;unfold eV;rw[if_neg (λz=>by cases (OU ok).mp z)];exact I4
def kD(a b:Int)(d:n8):List aR:=if d.2.2.2<=a\/b<=d.2.2.1 then [d.1] else if a<=d.2.2.1/\d.2.2.2<=b then [] else fD (cU (mP 0 (a-d.2.2.1) 0 d.2.1++mP (b-d.2.2.1) (d.2.2.2-d.2.2.1) 0 d.2.1))
def tD(a b:Int)(d:n8):List aR:=if d.2.2.2<=a\/b<=d.2.2.1 then [] else if a<=d.2.2.1/\d.2.2.2<=b then [d.1] else fD (cU (mP (a-d.2.2.1) (b-d.2.2.1) 0 d.2.1))
def OV(sh:Int->List Int)(a b f e:Int):List Int:=if f+↑(bq sh e)<=a\/b<=f then [e] else if a<=f/\f+↑(bq sh e)<=b then [] else (bq sh e).take (a-f).toNat++(bq sh e).drop (b-f).toNat
def Uu(sh:Int->List Int)(a b f e:Int):List Int:=if f+↑(bq sh e)<=a\/b<=f then [] else if a<=f/\f+↑(bq sh e)<=b then [e] else ((bq sh e).take (b-f).toNat).drop (a-f).toNat
def kE(sh:Int->List Int)(a b:Int):Int->List Int->List Int
 | _,[]=>[]
 | f,e::r=>OV sh a b f e++kE sh a b (f+↑(bq sh e)) r
def tE(sh:Int->List Int)(a b:Int):Int->List Int->List Int
 | _,[]=>[]
 | f,e::r=>Uu sh a b f e++tE sh a b (f+↑(bq sh e)) r
theorem xm(sh:Int->List Int)(a b:Int)(y:List Int):∀ (x:List Int) (f:Int),kE sh a b f (x++y)=kE sh a b f x++kE sh a b (f+↑(aT sh x)) y
 | [],f=>by simp[kE,aT]
 | e::x,f=>by
  rw[List.cons_append,kE,kE,xm sh a b y x,mL,cF,cX,Int.add_assoc]
  push_cast
  rfl
theorem Cs(sh:Int->List Int)(a b:Int)(y:List Int):∀ (x:List Int) (f:Int),tE sh a b f (x++y)=tE sh a b f x++tE sh a b (f+↑(aT sh x)) y
 | [],f=>by simp[tE,aT]
 | e::x,f=>by
  rw[List.cons_append,tE,tE,Cs sh a b y x,mL,cF,cX,Int.add_assoc]
  push_cast
  rfl
def tnS{a f:Int}(h:f<a):(a-f).toNat=(a-(f+1)).toNat+1:=by lia
theorem Uv{a f:Int}(h:a<=f):(a-f).toNat=0:=Int.toNat_of_nonpos (Int.sub_nonpos_of_le h)
theorem tn1{a f:Int}(h:a<=f):(a-(f+1)).toNat=0:=Uv (Int.le_trans h (Int.le_of_lt (Int.lt_succ f)))
theorem nS{a f:Int}(h:¬ f+1<=a):a<=f:=Int.not_lt.mp h
theorem OW(sh:Int->List Int){a b:Int}(ab:a<b):∀ (n:Nat) (x f:Int),0<=x->kE sh a b f (run x n)=(run x n).take (a-f).toNat++(run x n).drop (b-f).toNat
 | 0,_,_,_=>by simp[run,kE]
 | n+1,x,f,h=>by
  rw[run,kE,OW sh ab n (x+1) _ ∅];unfold OV;rw[yX sh h];show (if f+1<=a\/b<=f then [x] else if a<=f/\f+1<=b then [] else _)++((run (x+1) n).take (a-(f+1)).toNat++(run (x+1) n).drop (b-(f+1)).toNat)=_;by_cases c1:f+1<=a
  ·rw[if_pos (.inl c1),tnS c1,tnS (Int.lt_trans c1 ab)];rfl
  ·by_cases c2:b<=f
   ·rw[if_pos (.inr c2),Uv (nS c1),Uv c2,tn1 (nS c1),tn1 c2];rfl
   ·rw[if_neg (λz=>z.elim c1 c2),if_pos ⟨nS c1,Int.not_le.mp c2⟩,Uv (nS c1),tnS (Int.not_le.mp c2),tn1 (nS c1)];rfl
def Mi{a b t:Int}{r:Row}(ok:∀ p∈r,p.1<=p.2)(h:↑(bz r)<=t.toNat):bz (cU (mP 0 a 0 r++mP b t 0 r))=(bz r).take a.toNat++(bz r).drop b.toNat:=by
 rw[qR _ (VO (De _ _ _ _) (De _ _ _ _)),cQ,rP _ _ _ _ ok,rP _ _ _ _ ok];show ((bz r).take (a-0).toNat).drop 0++((bz r).take (t-0).toNat).drop (b-0).toNat=_;rw[Int.sub_zero,Int.sub_zero,Int.sub_zero,tK h];rfl
def aa2(sh:Int->List Int){a b:Int}(ab:a<b)(f:Int)(it:aR)(h:mY it):eS (kD a b (it,d8 sh it,f,f+jP (d8 sh it)))=kE sh a b f (gz it):=by
 have tt:=oj sh it h
 have sp:eS (fD (cU (mP 0 (a-f) 0 (d8 sh it)++mP (b-f) (f+jP (d8 sh it)-f) 0 (d8 sh it))))=(aT sh (gz it)).take (a-f).toNat++(aT sh (gz it)).drop (b-f).toNat:=by
  rw[vz,Mi (yY sh it h) (by rw[mE sh it h,tt];lia),mE sh it h]
 unfold kD;show eS (if f+jP (d8 sh it)<=a\/b<=f then [it] else if a<=f/\f+jP (d8 sh it)<=b then [] else fD (cU (mP 0 (a-f) 0 (d8 sh it)++mP (b-f) (f+jP (d8 sh it)-f) 0 (d8 sh it))))=_;have c1:(f+jP (d8 sh it)<=a\/b<=f)=(f+↑(aT sh (gz it))<=a\/b<=f):=by rw[tt]
 have c2:(a<=f/\f+jP (d8 sh it)<=b)=(a<=f/\f+↑(aT sh (gz it))<=b):=by rw[tt]
 simp only[c1,c2]
 cases it with
 | win n =>
  have e1:aT sh (gz (.win n))=bq sh (-1-n):=by show aT sh [-1-n]=_;rw[cF];simp[aT]
  rw[e1]at sp ⊢;show _=kE sh a b f [-1-n];rw[kE,kE,ic];unfold OV;split
  ·rfl
  ·split
   ·rfl
   ·exact sp
 | aL x y =>
  have e1:aT sh (gz (.aL x y))=run x (y-x).toNat:=oh sh _ _ h.1;rw[e1]at sp ⊢;show _=kE sh a b f (run x (y-x).toNat);rw[OW sh ab _ _ _ h.1];have rl:=gi x (y-x).toNat;split
  ·rename_i c;rw[mC];rcases c with c|c
   ·rw[tK ∅,List.drop_of_length_le ∅,ic];rfl
   ·rw[Uv (Int.le_trans (Int.le_of_lt ab) c),Uv c];rfl
  ·split
   ·rename_i c;rw[Uv c.1,List.drop_of_length_le ∅];rfl
   ·exact sp
theorem Kq(sh:Int->List Int){a b:Int}(ab:a<b):∀ (aP:List aR) (f:Int),gx aP->eS ((ck sh f aP).flatMap (kD a b))=kE sh a b f (eS aP)
 | [],f,_=>rfl
 | it::r,f,h=>by
  have h1:=h it (by simp);rw[ck,kG,gb,aa2 sh ab f it h1,Kq sh ab r _ λi hi=>h i (oE _ hi)];have e:eS (it::r)=gz it++eS r:=by unfold eS;rw[kG]
  rw[e,xm,oj sh it h1]
def aa3{a b:Int}{d:n8}(h:mY d.1)(g:pX d.2.1):gx (kD a b d):=by
 unfold kD;split
 ·exact gx.one h
 ·split
  ·exact λi hi=>by cases hi
  ·exact Ac (wR λp hp=>(List.mem_append.mp hp).elim (Dk _ _ _ _ g p) (Dk _ _ _ _ g p))
def OX(a b:Int)(d:n8):↑(kD a b d)<=↑d.2.1+↑d.2.1+1:=by
 unfold kD;split
 ·simp
 ·split
  ·simp
  ·rw[Km];refine jv (rQ _) ?_;rw[cX];have:=nG 0 (a-d.2.2.1) d.2.1 0;have:=nG (b-d.2.2.1) (d.2.2.2-d.2.2.1) d.2.1 0;lia
def WW(a b:Int)(d:n8):↑(tD a b d)<=↑d.2.1+↑d.2.1+1:=by
 unfold tD;split
 ·simp
 ·split
  ·simp
  ·exact jv (xj _ _ _) ∅
theorem rW(sh:Int->List Int){g:n8->List aR}(hg:∀ d,↑(g d)<=↑d.2.1+↑d.2.1+1):∀ (aP:List aR) (f:Int),↑((ck sh f aP).flatMap g)<=↑(bM sh aP)+↑(bM sh aP)+↑aP
 | [],_=>by simp[ck]
 | it::r,f=>by
  rw[ck,kG,cX];have a:=hg (it,d8 sh it,f,f+jP (d8 sh it));have b:=rW sh hg r (f+jP (d8 sh it));have e:bM sh (it::r)=d8 sh it++bM sh r:=by unfold bM;rw[kG];rfl
  rw[e,cX,kX];simp only at a;lia
theorem FQ(sh:Int->List Int)(it:aR)(row:Row)(fi la:Int):∀ (aP:List aR) (f:Int),(it,row,fi,la)∈ck sh f aP->∃ Q9∈aP,row=d8 sh Q9
 | [],_,h=>by cases h
 | i0::r0,f,h=>by
  rw[ck]at h;rcases List.mem_cons.mp h with e|e
  ·cases e;exact⟨it,by simp,rfl⟩
  ·let⟨i1,m1,e1⟩:=FQ sh it row fi la r0 _ e;exact⟨i1,oE _ m1,e1⟩
theorem Ct{H:Hp}{A:Addr}{l:List aR}{vs:List V}(h:H A=⇑(.lst vs))(t:bV (cH H) vs l):bR H ↥A l:=⟨A,vs,rfl,h,t⟩
def dY(sh:Int->List Int)(a b:Int)(es:List Int):List Int:=if a=b then es else kE sh a b 0 es
def mF(sh:Int->List Int)(a b:Int)(es:List Int):List Int:=if a=b then [] else tE sh a b 0 es
class inductive OY
 | mk (r S:Addr) (a b:Int) (aP:List aR) (kvs:List (eY × V)) (sh:Int->List Int) (_:vs=[↥r,↥S,.int a,.int b]) (_:bR H ↥r aP) (_:H S=⇑(.dK kvs)) (_:wZ H kvs sh aP) (_:↑aP<=10000) (_:↑(bM sh aP)<=20000) (_ :
 ∀ (t L M:Addr) (H':Hp),H' t=⇑(.tup [↥L,↥M])->bR H' ↥L ((ck sh 0 aP).flatMap (kD a b))->bR H' ↥M ((ck sh 0 aP).flatMap (tD a b))->aJ H H'->Q ↥t H')
theorem jJ:aH ["items","views","start","stop","left","taken","item","row","first","last"] ["items","views","start","stop"] (aB C4):=fc
theorem Mj:‹(3,26,["items","views","start","stop"],OY)›:=λD=>by
 have DA:aY P w K mg zt cP 1 (aX 7) (aZ 7) ["row","start","stop"] Fd:=wV D;specialize fH D.ZU.F jJ;let⟨r,S,p,q,aP,kvs,sh,rfl,hI,hS,hW,l1,l2,k⟩:=h;exists _,(ao (aW (i:=4) jJ.nd (bO aj)) (ao (aW (i:=5) jJ.nd (bO aj)) (ao (dN PassesOwn.never rfl (cz (aI D.Wq (FP D) hr (aa (pv 0) (aa (pv 1) aj)))) (oM (n:=4) rfl (b9 (bW (i:=6) jJ.nd) (b9 (bW (i:=7) jJ.nd) (b9 (bW (i:=8) jJ.nd) (b9 (bW (i:=9) jJ.nd) iI))))) (ay (bS (PW.pt (sL (br gy (pv 9) (pv 2) (bx _)) (v7 (br gy (pv 3) (pv 8) (bx _))))) (ay (aV (dI qm jQ jR bT (pv 4) (aa (pv 6) aj)))) (ay (bS (PW.pt (oJ (br gy (pv 2) (pv 8) (bx _)) (mR (br gy (pv 9) (pv 3) (bx _))))) (ay (aV (dI qm jQ jR bT (pv 5) (aa (pv 6) aj)))) (ao (v9 (i:=4) jJ.nd rfl (Or.inl rfl) (aI D.LO (qW D) hr (aa (bJ jC (aI D.X6 DA hr (aa (pv 7) (aa aC (aa (bJ cS (pv 2) (pv 8)) aj)))) (aI D.X6 DA hr (aa (pv 7) (aa (bJ cS (pv 3) (pv 8)) (aa (bJ cS (pv 9) (pv 8)) aj))))) aj)) wQ) (ay (v9 (i:=5) jJ.nd rfl (Or.inl rfl) (aI D.LO (qW D) hr (aa (aI D.X6 DA hr (aa (pv 7) (aa (bJ cS (pv 2) (pv 8)) (aa (bJ cS (pv 3) (pv 8)) aj)))) aj)) wQ)))))))) (ay (aN (eL (aa (pv 4) (aa (pv 5) aj))))))));refine⟨iZ,λA hA=>⟨iZ,λB hB=>?_⟩⟩;have sA:aJ H (aM H A (.lst [])):=au hA _;have sB:aJ _ (aM (aM H A (.lst [])) B (.lst [])):=au hB _;have s0:=sA.trans sB;have AS:A≠B:=az ah hB;have MU:=aU sA hB;refine⟨Y,Y,r,S,aP,kvs,sh,λa=>a≠A/\a≠B,rfl,hI.same s0,s0 _ _ hS,hW.same s0,Q,(λit hi=>by have:=vB sh hi;lia),?_,?_,λD dv H1 hD QX s1 _=>?_⟩
 ·intro n a hn hv;let⟨b,e,as,hb,_⟩:=hW n hn;rw[hv]at e;cases e;exact⟨az hb hA,az hb MU⟩
 ·intro a ha;exact⟨(az (sB _ _ ah) ha).symm,(az ah ha).symm⟩
 have hA1:=s1 _ _ (sB _ _ (ah (H:=H) (a:=A) (o:=.lst [])));have hB1:=s1 _ _ (ah (H:=aM H A (.lst [])) (a:=B) (o:=.lst []))
 have nD:D≠A/\D≠B:=by
  rename_i hD0;exact⟨(az (sB _ _ ah) hD0).symm,(az ah hD0).symm⟩
 have aeT:=rW sh (OX p q) aP 0;have aeU:=rW sh (WW p q) aP 0;refine⟨D,rfl,⟨_,bC.of hD⟩,dz (K:=K) (a:=D) (xs:=dv) (λi σ H2=>∃ u1 u2 u3 u4:Option V,σ=[⇑↥r,⇑↥S,⇑(.int p),⇑(.int q),⇑↥A,⇑↥B,u1,u2,u3,u4]/\lg H1 A B (((ck sh 0 aP).take i).flatMap (kD p q)) (((ck sh 0 aP).take i).flatMap (tD p q)) H2) ⟨none,none,none,none,rfl,⟨_,hA1,.nil⟩,⟨_,hB1,.nil⟩,λ_ _ e _ _=>e⟩ (by rintro i σ H2 _ ⟨_,_,_,_,_,pv⟩;exact bC.of (pv.k _ _ hD nD.1 nD.2)) ?_ ?_⟩
 ·rintro i x σ H2 hi ⟨u1,u2,u3,u4,rfl,pv⟩;let⟨d,ed,VS⟩:=QX.get hi;have hd2:=VS.Us hA1 hB1 (λa h=>h) pv.k;let⟨a,ra,xi,rfl,hta,hxi,Yb,nra⟩:=hd2;have eA:=rT (kD p q) ed;have eB:=rT (tD p q) ed;have bA:=iO (kD p q) (ck sh 0 aP) i;have bB:=iO (tD p q) (ck sh 0 aP) i;have bA1:=iO (kD p q) (ck sh 0 aP) (i+1);have bB1:=iO (tD p q) (ck sh 0 aP) (i+1);let⟨v1,hv1,t1⟩:=pv.a;let⟨v2,hv2,t2⟩:=pv.b;have z1:=t1.len;have z2:=t2.len;let⟨it,row,fi,la⟩:=d
  have rl:↑row<=20000:=by
   let⟨i1,m1,rfl⟩:=FQ sh it row fi la aP 0 (oA ed);have:=vB sh m1;lia
  have mV:↑v1<sizeLine:=aQ ∅
  have Ae:(la<=p\/q<=fi)->lg H1 A B (((ck sh 0 aP).take (i+1)).flatMap (kD p q)) (((ck sh 0 aP).take (i+1)).flatMap (tD p q)) (aM H2 A (.lst (v1++[xi]))):=λc=>by
   rw[eA,eB];have e1:kD p q (it,row,fi,la)=[it]:=by unfold kD;rw[if_pos c]
   have e2:tD p q (it,row,fi,la)=[]:=by unfold tD;rw[if_pos c]
   rw[e1,e2,ic];exact pv.Ko AS hv1 (.cons hxi .nil)
  exists a,Y,gV.of hta,rfl,P,rfl,P,rfl,P,rfl,Z;refine⟨Y,Y,Z,Y,cT (λc=>ji ?_) (λc=>?_)⟩
  ·exact⟨Y,.inl ⟨rfl,_,bC.of hv1⟩,Y,A,Z,hv1,mV,K,Y,Ae (.inl (of_decide_eq_true c))⟩
  have c':¬ la<=p:=λz=>c (decide_eq_true z);refine⟨Y,Y,Z,Y,cT (λc2=>?_) (λc2=>?_)⟩
  ·exact⟨Y,.inl ⟨rfl,_,bC.of hv1⟩,Y,A,Z,hv1,mV,K,Y,Ae (.inr (of_decide_eq_true c2))⟩
  have Mg:¬ q<=fi:=λz=>c2 (decide_eq_true z);have n1:¬ (la<=p\/q<=fi):=λz=>z.elim c' Mg
  have part:¬ (p<=fi/\la<=q)->lg H1 A B (((ck sh 0 aP).take i).flatMap (kD p q)) (((ck sh 0 aP).take i).flatMap (tD p q)) H2->kD p q (it,row,fi,la)=fD (cU (mP 0 (p-fi) 0 row++mP (q-fi) (la-fi) 0 row))/\tD p q (it,row,fi,la)=fD (cU (mP (p-fi) (q-fi) 0 row)):=λc3 _=>by
   exists ?_
   ·unfold kD;rw[if_neg n1,if_neg c3]
   ·unfold tD;rw[if_neg n1,if_neg c3]
  have go:¬ (p<=fi/\la<=q)->∀ (q1 q2:Addr) (v3:List V) (H4:Hp),H4 q2=⇑(.lst v3)->bV (cH H4) v3 (fD (cU (mP 0 (p-fi) 0 row++mP (q-fi) (la-fi) 0 row)))->aJ H2 H4->↑v1+↑v3<=sizeLine/\lg H1 A B (((ck sh 0 aP).take (i+1)).flatMap (kD p q)) (((ck sh 0 aP).take i).flatMap (tD p q)) (aM H4 A (.lst (v1++v3)))/\cB (aM H4 A (.lst (v1++v3))) ra row/\(aM H4 A (.lst (v1++v3))) B=⇑(.lst v2):=λc3 q1 q2 v3 H4 h3 t3 s4=>by
   let⟨e1,e2⟩:=part c3 pv;have z3:=t3.len;rw[eA,e1,cX]at bA1;have Mh:=s4 _ _ hv1;refine⟨Nat.le_of_lt (aQ ∅),?_,(Yb.same s4).keep Mh nra.1 (aK A _ _),by rw[aG AS.symm];exact s4 _ _ hv2⟩;rw[eA,e1];exact (pv.same s4).Ko AS Mh t3
  have go2:¬ (p<=fi/\la<=q)->∀ (v4:List V) (H5 H7:Hp),lg H1 A B (((ck sh 0 aP).take (i+1)).flatMap (kD p q)) (((ck sh 0 aP).take i).flatMap (tD p q)) H5->H5 B=⇑(.lst v2)->bV (cH H7) v4 (fD (cU (mP (p-fi) (q-fi) 0 row)))->aJ H5 H7->↑v2+↑v4<=sizeLine/\lg H1 A B (((ck sh 0 aP).take (i+1)).flatMap (kD p q)) (((ck sh 0 aP).take (i+1)).flatMap (tD p q)) (aM H7 B (.lst (v2++v4))):=λc3 v4 H5 H7 pv5 h5 t4 s7=>by
   let⟨e1,e2⟩:=part c3 pv;have z4:=t4.len;rw[eB,e2,cX]at bB1;refine⟨Nat.le_of_lt (aQ ∅),?_⟩;rw[eB,e2];exact (pv5.same s7).Kp AS (s7 _ _ h5) t4
  have pl1:=nG 0 (p-fi) row 0;have pl2:=nG (q-fi) (la-fi) row 0;have pl3:=nG (p-fi) (q-fi) row 0;refine⟨Y,Y,Z,Y,Ol (λz=>⟨Y,Y,Z,Y,z⟩) (λc5=>?_) (λc5=>?_)⟩
  ·exists Y,.inl ⟨rfl,_,bC.of hv2⟩,Y,B,Z,hv2,aQ ∅,K,Y;rw[eA,eB];have e1:kD p q (it,row,fi,la)=[]:=by unfold kD;rw[if_neg n1,if_pos c5]
   have e2:tD p q (it,row,fi,la)=[it]:=by unfold tD;rw[if_neg n1,if_pos c5]
   rw[e1,e2,ic];exact pv.Kp AS hv2 (.cons hxi .nil)
  ·refine⟨Y,Y,Y,Y,Z,ra,row,0,p-fi,rfl,Yb,Q,λq1 H3 R3 s3 Yc=>?_⟩;let⟨as3,ha3,pa3⟩:=id R3;have n3:=pa3.len;refine⟨Y,Y,Y,Z,Y,Y,Z,ra,row,q-fi,la-fi,rfl,Yb.same s3,Q,λq2 H4 R4 s4 eK=>?_⟩;let⟨as4,ha4,pa4⟩:=id R4;have n4:=pa4.len;refine⟨q1,q2,Z,s4 _ _ ha3,ha4,(by rw[cy,cy];exact gQ (aQ ∅)),λm hm=>?_⟩;have s5:aJ H4 (aM H4 m (.lst (as3.map V.ref++as4.map V.ref))):=au hm _;refine⟨m,mP 0 (p-fi) 0 row++mP (q-fi) (la-fi) 0 row,rfl,⟨as3++as4,by rw[ah,gU],bN.append ((pa3.same s4).same s5) (pa4.same s5)⟩,by rw[cX];lia,λq3 H6 I6 s6 G6=>?_⟩;let⟨q3',v3,e3,h3,t3⟩:=I6;cases e3;have s26:=s3.trans (s4.trans (s5.trans s6));let⟨g1,g2,g3,g4⟩:=go c5 q1 q3 v3 H6 h3 t3 s26;exists A,q3,Z,s26 _ _ hv1,h3,g1;refine⟨Y,Y,Y,Y,Z,Y,Y,Z,ra,row,p-fi,q-fi,rfl,g3,Q,λq4 H7 R7 s7 MT=>⟨q4,Y,R7,Q,λq5 H8 I8 s8 hq5=>?_⟩⟩;let⟨q5',v4,e4,h4,t4⟩:=I8;cases e4;let⟨f1,f2⟩:=go2 c5 v4 _ H8 g2 g4 t4 (s7.trans s8);exact⟨B,q5,Z,(s7.trans s8) _ _ g4,h4,f1,K,Y,f2⟩
 ·rintro σ H2 ⟨u1,u2,u3,u4,rfl,pv⟩;have dl:=QX.len;rw[dl,gP]at pv;let⟨v1,hv1,t1⟩:=pv.a;let⟨v2,hv2,t2⟩:=pv.b;have sm:aJ H H2:=λa ob e=>pv.k a ob (s1 _ _ (s0 _ _ e)) (az e hA) (az e MU);refine⟨Y,Y,qU,λt ht=>k t A B _ ah ?_ ?_ (sm.trans (au ht _))⟩
  ·exact (Ct hv1 t1).same (au ht _)
  ·exact (Ct hv2 t2).same (au ht _)
class inductive FT
 | mk (r:Addr) (af:cD) (s a b:Int) (sh:Int->List Int) (_:vs=[↥r,.int s,.int a,.int b]) (_:uz H r af sh) (_:0<=s) (_:s<↑af) (_:In3 a b ↑(sh s)) (_:(∀ (es:List Int) (q:Addr) (H':Hp),af[s.toNat]?=⇑es->bR H' ↥q (aO (dY sh a b es))->aJ H H'->H q=none->Q ↥q H'))
theorem yg:aH ["rows","sheet","start","stop","views"] ["rows","sheet","start","stop"] (aB tX):=fc
theorem DB:‹(4,27,["rows","sheet","start","stop"],FT)›:=λD=>by
 refine fH D.ZV.F yg λcJ A zn s0 H vs Q E hr h=>?_;let⟨r,af,s,p,q,sh,rfl,R,h0,h1,hp,k1⟩:=h;have hu:=gF hr;exists _,(ao (aW (i:=4) yg.nd (aI D.RX (mz D) hr (aa (pv 0) (aa (bO (aa (pv 1) aj)) aj)))) (ao (aV (aI D.dq6 (kQ D) hr (aa (gJ hu (pv 4) (pv 1)) (aa (pv 2) (aa (pv 3) aj))))) (ao (bS (br gn (pv 2) (pv 3) (bx _)) (ay (aN (aI D.OB (jI D) hr (aa (bI bw (pv 0) (pv 1)) aj)))) bG) (ay (aN (aI D.OB (jI D) hr (aa (bI dh (aI D.ZU (Mj D) hr (aa (bI bw (pv 0) (pv 1)) (aa (pv 4) (aa (pv 2) (aa (pv 3) aj))))) aC) aj)))))));refine⟨Y,Y,jY,λL hL=>?_⟩;have s1:aJ H (aM H L (.lst [.int s])):=au hL _;refine⟨r,L,af,[s],sh,rfl,R.at_.same s1,ah,by simp,R.len,R.ents,R.snd,R.rk,(λx hx=>by rw[List.mem_singleton.mp hx];exact⟨h0,h1⟩),R.shw,R.bd,λS kvs ks H2 hS hv tp sk hn s2 hS0=>?_⟩;have sk1:=sk s (by simp);let⟨a,ha,Ra⟩:=hv s sk1;have z:=jw.k (k:=Sum.inl s) hS;rw[ha]at z;have mO:=s1.trans s2;have shl:=R.bd s h0 h1;have rol:=rV (sh s);let⟨es,yc,b,O⟩:=(R.same mO).one h0 h1;refine⟨Y,Y,S,Y,z,Y,Y,a,d9 (sh s),p,q,rfl,Ra,Q,by rw[O.tt];exact hp,λH3 s3=>?_⟩
 ·let⟨rK,ae2,b',O3⟩:=(R.same (mO.trans s3)).one h0 h1;have ee:es=rK:=qC (O.he.symm.trans O3.he);subst ee;let⟨e1,e2⟩:=pO es;refine⟨Y,Y,rfl,Y,cT (λc=>?_) (λc=>?_)⟩
  ·have c':p=q:=V.int.inj (of_decide_eq_true c);refine⟨Y,Y,r,K,V,bC.of O3.hr,O3.ix,b',aO es,rfl,O3.it,jv O3.il (by decide),λo H4 I4 s4 ho=>?_⟩;refine k1 es o H4 O.he ?_ (mO.trans (s3.trans s4)) (aU (mO.trans s3) ho);rw[mZ _ e2,e1]at I4;unfold dY;rw[if_pos c'];exact I4
  ·have c':¬ p=q:=λz=>c (by rw[z];exact decide_eq_true rfl);have pq:p<q:=by have:=hp.2.1;lia
   refine⟨Y,Y,r,K,V,bC.of O3.hr,O3.ix,Y,Y,Y,b',S,p,q,aO es,kvs,sh,rfl,O3.it,s3 _ _ hS,λn hn=>?_,jv O3.il (by decide),jv O3.rl (by decide),λt L M H4 ht hL4 hM4 s4=>?_⟩
   ·have nx:=yZ h0 O.he hn;let⟨i,hi⟩:=List.getElem?_of_mem sk1;let⟨a2,e2,R2⟩:=hv n (List.mem_of_mem_take (tp.dn i s hi n nx));exact⟨a2,e2,R2.same s3⟩
   have nn:WQ sh (aO es):=λn hn=>by
    have nx:=yZ h0 O.he hn;let⟨n0,n1⟩:=R.snd.Fq nx;exact FO R.snd R.rk R.shw n n0 n1
   have WU:=Dw sh (aO es) 0 e2 nn;have lk:gx ((ck sh 0 (aO es)).flatMap (kD p q)):=Dy λd hd=>aa3 (WU d hd).1 (WU d hd).2;have ll:=rW sh (OX p q) (aO es) 0;have oil:=O3.il;have orl:=O3.rl;refine⟨t,K,V,gV.of ht,rfl,L,Y,hL4,Q,λo H5 I5 s5 ho=>?_⟩;refine k1 es o H5 O.he ?_ (mO.trans (s3.trans (s4.trans s5))) (aU (mO.trans (s3.trans s4)) ho);rw[mZ _ lk,Kq sh pq _ _ e2,e1]at I5;unfold dY;rw[if_neg c'];exact I5
abbrev kU(ws:iH):HO:=.lst (ws.map λw=>V.str (fk w))
abbrev WX:List (Str × Int):=[(Str.ofString "fresh",0),(Str.ofString "cut",3),(Str.ofString "move",4),(Str.ofString "quote",5),(Str.ofString "window",3),(Str.ofString "fix",1),(Str.ofString "back",2),(Str.ofString "fork",2),(Str.ofString "untie",1),(Str.ofString "read",1)]
abbrev AHD:List (Str × Int):=[(Str.ofString "put",2),(Str.ofString "strike",0),(Str.ofString "blot",1),(Str.ofString "lift",1)]
def om(D:List (Str × Int))(n:List Nat):Option Int:=(D.find? λp=>decide (fk n=p.1)).map (·.2)
def Af{D:List (Str × Int)}{n:List Nat}{i:Int}(h:om D n=⇑i):(D.find? λp=>decide (fk n=p.1))=⇑(fk n,i):=by
 unfold om at h;let⟨⟨x,j⟩,e,rfl⟩:=Option.map_eq_some_iff.mp h;have z:=List.find?_some e;have:fk n=x:=of_decide_eq_true z;rw[e,this]
abbrev FU:List Nat:=[116,105,101]
inductive ko where
 | A8 (h:Int) (t:List Nat)
 | plain (n:List Nat) (ns:List Int)
 | sY (n:List Nat) (ns:List Int) (r:Row)
def ko.At(H:Hp)(p:Addr):ko->Prop
 | .A8 h t=>H p=⇑(.tup [.str "pour",.int h,.str (fk t)])
 | .plain n ns=>H p=⇑(.tup (.str (fk n)::ns.map V.int))
 | .sY n ns r=>∃ q,H p=⇑(.tup (.str (fk n)::ns.map V.int++[↥q]))/\cB H q r
def qt(n:Int):Prop:=0<=n/\n<10^60
def OZ(r:Row):Prop:=↑r<=29/\∀ p∈r,qt p.1/\qt p.2
def ko.Ok:ko->Prop
 | .A8 h t=>qt h/\↑t<=200
 | .plain n ns=>om WX n=⇑(↑ns:Int)/\∀ x∈ns,qt x
 | .sY n ns r=>om AHD n=⇑(↑ns:Int)/\(∀ x∈ns,qt x)/\OZ r
abbrev vD(p:Int × Int):List Nat:=iY.dg p.1++45::iY.dg p.2
def Ml{p:Int × Int}(h:qt p.1/\qt p.2):↑(vD p)<=121:=by
 rw[cX,kX];have a:=iY.Io h.1.1 h.1.2;have b:=iY.Io h.2.1 h.2.2;lia
def DC{n:Int}(h:qt n):n.natAbs.log2<1920:=by
 let⟨h0,h1⟩:=h;by_cases z:n.natAbs=0
 ·rw[z];decide
 ·rw[Nat.log2_lt z];have a:n.natAbs<10^60:=by lia
  exact oG a (jv (show (10:Nat)^60<=2^200 by decide) (Nat.pow_le_pow_right (by decide) (by decide)))
inductive iz where
 | num (x:Int)
 | tx (t:List Nat)
 | row (r:Row)
def iz.At(H:Hp)(v:V):iz->Prop
 | .num x=>v=.int x
 | .tx t=>v=.str (fk t)
 | .row r=>∃ q,v=↥q/\cB H q r
def iz.Ok:iz->Prop
 | .num x=>qt x
 | .tx t=>↑t<=200
 | .row r=>OZ r
abbrev FW(r:Row):List Nat:=r.flatMap λp=>32::vD p
def iz.line:iz->List Nat
 | .num x=>32::iY.dg x
 | .tx t=>32::t
 | .row r=>FW r
def O0{r:Row}(h:OZ r):↑(FW r)<=4000:=by
 have key:∀ l:Row,(∀ p∈l,qt p.1/\qt p.2)->↑(FW l)<=122*↑l:=by
  intro l
  induction l with
  | nil=>intro _;exact fT _
  | cons p l ih =>
   intro g;have z:=ih λq hq=>g q (oE _ hq);have z2:=Ml (g p tL);show ↑((32::vD p)++FW l)<=_;rw[cX,kX,kX];lia
 have:=key r h.2;have:=h.1;lia
def iz.FY{p:iz}(h:p.Ok):↑p.line<=4000:=by
 cases p with
 | num x=>have:=iY.Io h.1 h.2;show ↑(32::iY.dg x)<=_;rw[kX];lia
 | tx t=>have h':↑t<=200:=h;show ↑(32::t)<=_;rw[kX];lia
 | row r=>exact O0 h
def ko.nm:ko->List Nat
 | .A8 _ _=>[112,111,117,114]
 | .plain n _=>n
 | .sY n _ _=>n
def ko.parts:ko->List iz
 | .A8 h t=>[.num h,.tx t]
 | .plain _ ns=>ns.map .num
 | .sY _ ns r=>ns.map .num++[.row r]
def ko.line:ko->List Nat
 | d=>d.nm++d.parts.flatMap iz.line
def O1{H:Hp}{p:Addr}{d:ko}(h:d.At H p):∃ vs,H p=⇑(.tup (.str (fk d.nm)::vs))/\bV (λv q=>iz.At H v q) vs d.parts:=by
 have nums:∀ ns:List Int,bV (λv q=>iz.At H v q) (ns.map V.int) (ns.map iz.num):=λns=>by
  induction ns with
  | nil=>exact .nil
  | cons x ns ih=>exact .cons rfl ih
 cases d with
 | A8 x t=>exact⟨_,by rw[h,show Str.ofString "pour"=fk [112,111,117,114] by decide +kernel];rfl,.cons rfl (.cons rfl .nil)⟩
 | plain n ns=>exact⟨_,h,nums ns⟩
 | sY n ns r =>
  let⟨q,e,z⟩:=h;exact⟨ns.map V.int++[↥q],by rw[e];rfl,(nums ns).snoc ⟨q,rfl,z⟩⟩
def Mm{d:ko}(h:d.Ok):∀ q∈d.parts,q.Ok:=by
 cases d with
 | A8 x t =>
  intro q hq;rcases List.mem_cons.mp hq with z|z
  ·rw[z];exact h.1
  ·rw[List.mem_singleton.mp z];exact h.2
 | plain n ns =>
  intro q hq;let⟨x,hx,rfl⟩:=List.mem_map.mp hq;exact h.2 x hx
 | sY n ns r =>
  intro q hq;rcases List.mem_append.mp hq with z|z
  ·let⟨x,hx,rfl⟩:=List.mem_map.mp z;exact h.2.1 x hx
  ·rw[List.mem_singleton.mp z];exact h.2.2
theorem FZ{H:Hp}:∀ {vs:List V} {ps:List iz} {i:Nat} {v:V},bV (λv q=>iz.At H v q) vs ps->vs[i]?=⇑v->∃ q,ps[i]?=⇑q/\q.At H v
 | _,_,_,_,.nil,h=>by simp at h
 | _,_,0,_,.cons o t,h=>by
  have e:=qC h;subst e;exact⟨Y,o⟩
 | _,_,i+1,_,.cons o t,h=>by
  let⟨q,e,z⟩:=FZ (i:=i) t (by simpa using h);exact⟨q,by simpa using e,z⟩
def Cu{ps:List iz}(h:∀ q∈ps,q.Ok):↑(ps.flatMap iz.line)<=4000*↑ps:=by
 induction ps with
 | nil=>exact Nat.zero_le _
 | cons p ps ih =>
  have z:=ih λq hq=>h q (oE _ hq);have z2:=iz.FY (h p tL);rw[kG,cX,kX,Nat.mul_add,Nat.mul_one];lia
def Sv(n:List Nat):∀ ws:iH,iY.jn 32 (n::ws)=n++ws.flatMap (λw=>32::w):=by
 intro ws
 induction ws generalizing n with
 | nil=>show n=_;simp
 | cons w ws ih =>
  show n++32::iY.jn 32 (w::ws)=_;rw[ih w,kG];simp
def F0{D:List (Str × Int)}{n:List Nat}{k:Int}(hD:∀ p∈D,32∉p.1.cps.toList/\p.1.cps.toList≠[112,111,117,114]/\p.1.cps.toList≠FU/\↑p.1.cps.toList<=10)(h:om D n=⇑k):32∉n/\n≠[112,111,117,114]/\n≠FU/\↑n<=10:=by
 have z:=hD _ (List.mem_of_find?_eq_some (Af h));have e:(fk n).cps.toList=n:=iY.vh n;rw[show ((fk n,k):Str × Int).1=fk n from rfl,e]at z;exact z
theorem O2{n:List Nat}{k:Int}(h:om WX n=⇑k):32∉n/\n≠[112,111,117,114]/\n≠FU/\↑n<=10:=F0 nofun h
theorem O4{n:List Nat}{k:Int}(h:om AHD n=⇑k):32∉n/\n≠[112,111,117,114]/\n≠FU/\↑n<=10:=F0 nofun h
def O5(r:Row):FW r=(r.map vD).flatMap λw=>32::w:=by
 induction r with
 | nil=>rfl
 | cons x r ih=>rw[jy,kG,← ih];rfl
def ko.At.same{H H':Hp}{p:Addr}{d:ko}(h:d.At H p)(s:aJ H H'):d.At H' p:=by
 cases d with
 | A8 x t=>exact s _ _ h
 | plain n ns=>exact s _ _ h
 | sY n ns r=>let⟨q,e,r1⟩:=h;exact⟨q,s _ _ e,r1.same s⟩
def Mn{n:List Nat}{k:Int}(h:om WX n=⇑k):k<=5:=by
 have z:∀ p∈WX,p.2<=5:=by decide +kernel
 exact z _ (List.mem_of_find?_eq_some (Af h))
def Mp{n:List Nat}{k:Int}(h:om AHD n=⇑k):k<=5:=by
 have z:∀ p∈AHD,p.2<=5:=by decide +kernel
 exact z _ (List.mem_of_find?_eq_some (Af h))
def IK{d:ko}(ok:d.Ok):d.nm≠FU/\↑d.nm<=10/\↑d.parts<=10:=by
 cases d with
 | A8 x t=>exact⟨by show [112,111,117,114]≠FU;decide,by show 4<=10;decide,by show 2<=10;decide⟩
 | plain n ns =>
  let⟨_,_,f3,f4⟩:=O2 ok.1;have:=Mn ok.1;exact⟨f3,f4,by show ↑(ns.map iz.num)<=10;rw[cy];lia⟩
 | sY n ns r =>
  let⟨_,_,f3,f4⟩:=O4 ok.1;have:=Mp ok.1;exact⟨f3,f4,by show ↑(ns.map iz.num++[iz.row r])<=10;rw[cX,cy];show ↑ns+1<=10;lia⟩
class inductive Ag
 | mk (q:Addr) (r:Row) (_:vs=[↥q]) (_:cB H q r) (_:OZ r) (_: ∀ (a:Addr) (H':Hp),H' a=⇑(kU (r.map vD))->aJ H H'->H a=none->Q ↥a H')
theorem F1:aH ["row"] ["row"] (aB oV):=fc
def O6{a b:Int}(ha:0<=a)(hb:0<=b):(Str.empty++Str.ofString (toString a)++Str.ofString "-"++Str.ofString (toString b))=fk (vD (a,b)):=by
 rw[iY.yV ha,iY.yV hb,show Str.ofString "-"=fk [45] by decide +kernel,show Str.empty=fk [] from rfl,Dm,Dm,Dm];simp
theorem DE:‹(1,28,["row"],Ag)›:=λD=>by
 specialize fH D.RY.F F1;let⟨q,r,rfl,⟨as,hq,pa⟩,⟨lr,fr⟩,k⟩:=h;refine⟨_,(ay (aN (gI (N:=["start","stop"]) (mq (sc:=aB oV) (NX:=["row"]) (jx:=[none,none]) rfl rfl rfl nofun nofun rfl nofun rfl nofun) rfl (cz (pv 0)) (λ_ _ _ _ _ _=>(ve (n:=2) rfl (b9 (bW (i:=0) (show List.Nodup (["start","stop"]:List Str) by decide +kernel)) (b9 (bW (i:=1) (show List.Nodup (["start","stop"]:List Str) by decide +kernel)) iI)))) (λ_ _ _ _ _ _=>gX) (λ_ _ _ _ _ _=>(iY.Ou (iY.J8 (pv 0) (iY.RC (iY.J8 (pv 1) iY.RB)))))))),?_⟩;have lp:=Paired.length pa;refine⟨Y,q,rfl,⟨_,bC.of hq⟩,λacc cK=>gD (K:=K) (a:=q) (xs:=as.map V.ref) (λi σ H2=>∃ u0 u1:Option V,σ=[u0,u1]/\H2 acc=⇑(kU ((r.take i).map vD))/\aJ H H2) ⟨none,none,rfl,ah,au cK _⟩ (by rintro i σ H2 _ ⟨_,_,_,_,s2⟩;exact bC.of (s2 _ _ hq)) ?_ ?_⟩
 ·rintro i y σ H2 hi ⟨u0,u1,rfl,h2,s2⟩;rw[gf]at hi;let⟨a,ei,rfl⟩:=Option.map_eq_some_iff.mp hi;let⟨p,ep,hp⟩:=pa.get ei;have fp:=fr p (oA ep);have il:=(List.getElem?_eq_some_iff.mp ep).1;exists a,Y,gV.of (s2 _ _ hp),rfl,P,rfl,Z;refine⟨Y,Y,DC fp.1,Y,Y,DC fp.2,_,h2,aQ (by rw[cy,cy,gO];lia),P,rfl,?_,bQ cK s2 (aK acc _ _)⟩;rw[ah,take_snoc ep,gU,jy,List.map_nil,O6 fp.1.1 fp.2.1];show some (HO.lst _)=⇑(HO.lst _);rw[gU];rfl
 ·rintro σ H2 ⟨u0,u1,rfl,h2,s2⟩;rw[cy,lp,gP]at h2;exact k acc H2 h2 s2 cK
def iz.words:iz->iH
 | .num x=>[iY.dg x]
 | .tx t=>[t]
 | .row r=>r.map vD
def uA(ps:List iz):(ps.flatMap iz.words).flatMap (λw=>32::w)=ps.flatMap iz.line:=by
 induction ps with
 | nil=>rfl
 | cons p ps ih =>
  rw[kG,kG,List.flatMap_append,ih];congr 1
  cases p with
  | num x=>show (32::iY.dg x)++[]=32::iY.dg x;rw[ic]
  | tx t=>show (32::t)++[]=32::t;rw[ic]
  | row r=>exact (O5 r).symm
class inductive O7
 | mk (p:Addr) (d:ko) (_:vs=[↥p]) (_:d.At H p) (_:d.Ok) (_:d.nm≠FU/\↑d.nm<=10/\↑d.parts<=10) (_: ∀ H',aJ H H'->Q (.str (fk d.line)) H')
theorem lE:aH ["deed","words","thing"] ["deed"] (aB qI):=fc
def F2(W:iH):(W.map List.length).sum+↑W=↑(W.flatMap λw=>32::w):=by
 induction W with
 | nil=>rfl
 | cons x W ih =>
  rw[jy,List.sum_cons,kX,kG,cX,kX,← ih];lia
theorem Mq(a b:iH):(a.map λw=>V.str (fk w))++(b.map λw=>V.str (fk w))=(a++b).map λw=>V.str (fk w):=List.map_append.symm
theorem A9:‹(2,29,["deed"],O7)›:=λD=>by
 have uB:aY P w K mg zt cP 1 _ _ ["row"] Ag:=DE D;specialize fH D.ZW.F lE;let⟨p,d,rfl,hd,ok,nn,k⟩:=h;exists _,(ao (bS (br gn (bI dh (pv 0) aC) bP (bx _)) (ay (aN (dI PySem.F.plainAttrs_str PySem.F.slot_str_join PySem.F.type_str_join iY.Fw bP (aa (bJ jC (bJ jC (bJ jC (bO (aa bP aj)) (aI D.RY uB hr (aa (bI dh (pv 0) aC) aj))) (bO (aa bP aj))) (aI D.RY uB hr (aa (bI dh (pv 0) aC) aj))) aj)))) bG) (ao (aW (i:=1) lE.nd (bO (aa (bI dh (pv 0) aC) aj))) (ao (dN PassesOwn.never rfl (U8 (jb Vg (pv 0) (jA aC) lu)) (bW (i:=2) lE.nd) (ay (v9 (i:=1) lE.nd rfl (Or.inl rfl) (EG (fN (cu dB rfl D.T.cR vX (aa (pv 2) (aa (nV rfl D.T.i6 sf) aj)))) (aI D.RY uB hr (aa (pv 2) aj)) (bO (aa (A4.ZD (pv 2)) aj))) wQ))) (ay (aN (dI PySem.F.plainAttrs_str PySem.F.slot_str_join PySem.F.type_str_join iY.Fw bP (aa (pv 1) aj)))))));have tt:Str.ofString "tie"=fk FU:=by decide +kernel
 have kil:kitOne K (.type "int") (.type "list")=⇑false:=by kernel_rfl
 have ksl:kitOne K (.type "str") (.type "list")=⇑false:=by kernel_rfl
 let⟨vs,hp,al⟩:=O1 hd;let⟨n1,n2,n3⟩:=nn;have pk:=Mm ok;have lv:=al.len;have ln:d.line=d.nm++d.parts.flatMap iz.line:=rfl;exists Y,p,K,V,gV.of hp,Wf;refine⟨rfl,Y,cT (λc=>absurd (of_decide_eq_true c) (by rw[tt];intro z;exact n1 (RA (V.str.inj z)))) (λ_=>?_)⟩;refine⟨Y,p,K,V,gV.of hp,Wf,jY,λwl fwl=>?_⟩;have s0:=au fwl (.lst [.str (fk d.nm)]);have h0:(aM H wl (.lst [.str (fk d.nm)])) wl=⇑(kU [d.nm]):=ah;refine⟨Y,Y,p,Y,gV.of (s0 _ _ hp),?_,λtp htp=>?_⟩
 ·rintro⟨z,_⟩;have e:HT.i7 ↑(V.str (fk d.nm)::vs) 0 (some 1)=min 1 ↑(V.str (fk d.nm)::vs):=HT.JE _ _ 1;have z':HT.i7 ↑(V.str (fk d.nm)::vs) 0 (some 1)=0:=z;rw[e,kX]at z';lia
 have ec:jN (V.str (fk d.nm)::vs) (some 1) none=vs:=by
  unfold jN;have e:HT.i7 ↑(V.str (fk d.nm)::vs) 0 (some 1)=1:=(HT.JE _ _ 1).trans (by rw[kX];lia);have e2:HT.i7 ↑(V.str (fk d.nm)::vs) ↑(V.str (fk d.nm)::vs) none=↑vs+1:=rfl;rw[e,e2];show vs.take (↑vs+1-1)=vs;exact tK ∅
 rw[ec];change (aM H wl (.lst [.str (fk d.nm)])) tp=none at htp;have s1':=au htp (.tup vs);have h1:(aM (aM H wl (.lst [.str (fk d.nm)])) tp (.tup vs)) tp=⇑(.tup vs):=ah;have h1w:=s1' _ _ h0;have s1:=s0.trans s1';have nwt:wl≠tp:=az h0 htp;generalize aM (aM H wl (.lst [.str (fk d.nm)])) tp (.tup vs)=H1 at s1 h1 h1w;refine⟨tp,rfl,⟨_,gV.of h1⟩,QA (K:=K) (a:=tp) (xs:=vs) (λi σ H2=>∃ u:Option V,σ=[⇑↥p,⇑↥wl,u]/\H2 wl=⇑(kU (d.nm::(d.parts.take i).flatMap iz.words))/\H2 tp=⇑(.tup vs)/\aJ H H2) ⟨none,rfl,by rw[List.take_zero,List.flatMap_nil];exact h1w,h1,s1⟩ (by rintro i σ H2 _ ⟨_,_,_,h2,_⟩;exact gV.of h2) ?_ ?_⟩
 ·rintro i v σ H2 hi ⟨u,rfl,h2,h2t,s2⟩;let⟨q,eq,hq⟩:=FZ al hi;have qk:=pk q (oA eq);have ql:=iz.FY qk;have fl:=Cu (ps:=d.parts.take i) λq hq=>pk q (List.mem_of_mem_take hq);have ft:↑(d.parts.take i)<=10:=by rw[gO];lia
  have fs:=F2 ((d.parts.take i).flatMap iz.words);rw[uA]at fs
  have nx:d.nm::(d.parts.take (i+1)).flatMap iz.words=(d.nm::(d.parts.take i).flatMap iz.words)++q.words:=by
   rw[take_snoc eq,List.flatMap_append,kG,List.flatMap_nil,ic,List.cons_append]
  have lB:↑(d.nm::(d.parts.take i).flatMap iz.words)<=50000:=by rw[kX];lia
  have lq:↑q.words<=29:=by
   cases q with
   | num x=>show 1<=29;decide
   | tx t=>show 1<=29;decide
   | row r=>show ↑(r.map vD)<=29;rw[cy];exact qk.1
  have nO:∀ (t:Addr) (H3:Hp) (v':V),aJ H2 H3->H2 t=none->H3 t=⇑(kU q.words)->∃ (l b:Addr) (xs zs:List V),V.ref wl=↥l/\V.ref t=↥b/\H3 l=⇑(.lst xs)/\H3 b=⇑(.lst zs)/\↑xs+↑zs<=sizeLine/\∃ u:Option V,([⇑↥p,⇑↥wl,⇑v']:List (Option V)).set 1 (⇑↥l)=[⇑↥p,⇑↥wl,u]/\(aM H3 l (.lst (xs++zs))) wl=⇑(kU (d.nm::(d.parts.take (i+1)).flatMap iz.words))/\(aM H3 l (.lst (xs++zs))) tp=⇑(.tup vs)/\aJ H (aM H3 l (.lst (xs++zs))):=by
   intro t H3 v' s3 J1 h3;exists wl,t,Z,s3 _ _ h2,h3,gQ (aQ (by rw[cy,cy];lia)),Y,?_,?_
   ·rw[Mq,ah,nx]
   ·rw[aG nwt.symm];exact s3 _ _ h2t
   ·exact bQ fwl (s2.trans s3) (aK wl _ _)
  cases q with
  | num x =>
   cases (show v=.int x from hq);refine⟨Y,Y,_,"list",P,rfl,.int x,kil,Y,dM ⟨Y,.inl ⟨x,rfl,DC qk,?_⟩⟩⟩;rw[iY.yV qk.1];exact⟨jY,λt J1=>nO t _ (.int x) (au J1 _) J1 ah⟩
  | tx t =>
   cases (show v=.str (fk t) from hq);have lt:↑t<=200:=qk;refine⟨Y,Y,_,"list",P,rfl,.str _,ksl,Y,dM ⟨Y,.inr ⟨t,rfl,Q,?_⟩⟩⟩;exact⟨jY,λt' J1=>nO t' _ (.str (fk t)) (au J1 _) J1 ah⟩
  | row r =>
   let⟨qa,rfl,hr⟩:=hq;have Kg:=hr.same s2;let⟨as,has,_⟩:=id Kg;refine⟨Y,Y,_,"list",P,rfl,.lst has,Vv K,Y,ji ?_⟩;exact⟨Y,qa,r,rfl,Kg,qk,λt H3 h3 s3 J1=>nO t H3 ↥qa s3 J1 h3⟩
 ·rintro σ H2 ⟨u,rfl,h2,h2t,s2⟩;rw[lv,gP]at h2;have fs:=F2 (d.parts.flatMap iz.words);rw[uA]at fs;have fl:=Cu (ps:=d.parts) pk;exists rfl,Y,wl,32,_,by rw[show Str.ofString " "=⟨#[32]⟩ by decide +kernel],rfl,h2,?_
  ·rw[jy,List.sum_cons,kX];lia
  rw[Sv,uA,← ln];exact k H2 s2
structure aa5(S:Addr->Prop)(H:Hp)(st op r:Addr)(aP:List aR):Prop where
 own:S r
 ne:r≠st/\r≠op
 at':bR H ↥r aP
def IL(S:Addr->Prop)(H:Hp)(st op a:Addr)(af:List (List aR)):Prop:=S a/\a≠st/\a≠op/\∃ rs:List Addr,H a=⇑(.lst (rs.map V.ref))/\bV (aa5 S H st op) rs af
abbrev kq:=List (List (List aR))
structure Opn(bK:kq)(ops:List Int):Prop where
 Cv:∃ last,bK.getLast?=⇑last/\↑ops=↑last
 fit:∀ (s:Nat) (o:Int),ops[s]?=⇑o->0<=o/\o<↑bK/\∀ (m:Nat) (af:List (List aR)),bK[m]?=⇑af->(o<=m↔s<↑af)
 less:∀ (m:Nat) (af:List (List aR)),bK[m]?=⇑af->↑af<=↑ops
structure Sh(C:Addr)(S:Addr->Prop)(H:Hp)(x d st op:Addr)(bK:kq)(ops:List Int):Prop where
 sx:S x
 ss:S st
 so:S op
 al:∀ a,S a->∃ ob,H a=⇑ob
 hx:H x=⇑(.ins C d [("states",↥st),("openings",↥op)])
 hs:∃ as:List Addr,H st=⇑(.lst (as.map V.ref))/\bV (IL S H st op) as bK
 ho:H op=⇑(.lst (ops.map V.int))
 ne:st≠op
 Qq:Opn bK ops
def bR.fr{H H':Hp}{r:Addr}{aP:List aR}(h:bR H ↥r aP)(k:∀ xs,H r=⇑(.lst xs)->H' r=⇑(.lst xs))(t:∀ a xs,H a=⇑(.tup xs)->H' a=⇑(.tup xs)):bR H' ↥r aP:=by
 let⟨a,vs,e,h1,h2⟩:=h;cases e;exact⟨r,vs,rfl,k _ h1,h2.mono λv it ⟨b,e,hb⟩=>⟨b,e,t _ _ hb⟩⟩
def IL.fr{S S':Addr->Prop}{H H':Hp}{st a:Addr}{af:List (List aR)}(h:IL S H st op a af)(sub:∀ a,S a->S' a)(k:∀ a ob,H a=⇑ob->S a->a≠st->a≠op->H' a=⇑ob)(t:∀ a xs,H a=⇑(.tup xs)->H' a=⇑(.tup xs)):IL S' H' st op a af:=by
 let⟨sa,n1,n2,rs,hr,al⟩:=h;exact⟨sub _ sa,n1,n2,rs,k _ _ hr sa n1 n2,al.mono λr aP q=>⟨sub _ q.own,q.ne,q.at'.fr (λxs e=>k _ _ e q.own q.ne.1 q.ne.2) t⟩⟩
def Sh.fr{C:Addr}{S:Addr->Prop}{H H':Hp}{x d st:Addr}{bK:kq}{ops:List Int}(h:Sh C S H x d st op bK ops)(k:∀ a ob,H a=⇑ob->S a->H' a=⇑ob)(t:∀ a xs,H a=⇑(.tup xs)->H' a=⇑(.tup xs)):Sh C S H' x d st op bK ops:=by
 let⟨sx,ss,so,al,hx,⟨as,hs,a2⟩,ho,ne,Qq⟩:=h;refine⟨sx,ss,so,λa z=>?_,k _ _ hx sx,⟨as,k _ _ hs ss,a2.mono λa af q=>q.fr (λ_ z=>z) (λa ob e z _ _=>k _ _ e z) t⟩,k _ _ ho so,ne,Qq⟩;let⟨ob,e⟩:=al a z;exact⟨ob,k _ _ e z⟩
theorem Sh.same{C:Addr}{S:Addr->Prop}{H H':Hp}{x d st:Addr}{bK:kq}{ops:List Int}(h:Sh C S H x d st op bK ops)(k:aJ H H'):Sh C S H' x d st op bK ops:=h.fr (λa ob e _=>k a ob e) (λa xs e=>k _ _ e)
theorem Sh.keep{C:Addr}{S:Addr->Prop}{H H':Hp}{x d st l:Addr}{bK:kq}{ops:List Int}{ls:List V}(h:Sh C S H x d st op bK ops)(hl:H l=⇑(.lst ls))(nl:¬ S l)(k:cL l H H'):Sh C S H' x d st op bK ops :=
 h.fr (λa ob e z=>k a ob e (λq=>nl (by rw[← q];exact z))) (λa xs e=>k _ _ e (cY e hl))
theorem Ah:∀ {as bs:List Addr},as.map V.ref=bs.map V.ref->as=bs
 | [],[],_=>rfl
 | [],_::_,h=>by cases h
 | _::_,[],h=>by cases h
 | a::as,b::bs,h=>by
  rw[jy,jy]at h;injection h with h1 h2;cases h1;rw[Ah h2]
def Sh.last{C:Addr}{S:Addr->Prop}{H:Hp}{x d st:Addr}{bK:kq}{ops:List Int}(h:Sh C S H x d st op bK ops){as:List Addr}(ha:H st=⇑(.lst (as.map V.ref))):∃ Oh a,as=Oh++[a]/\∀ last,bK.getLast?=⇑last->IL S H st op a last:=by
 let⟨bs,hb,a2⟩:=h.hs
 have e:as=bs:=by
  rw[ha]at hb;have:=HO.lst.inj (qC hb);exact Ah this
 subst e;let⟨last,hl,_⟩:=h.Qq.Cv
 obtain⟨p',rfl⟩:∃ p',bK=p'++[last]:=by
  rcases qo bK with rfl|⟨p',l,rfl⟩
  ·cases hl
  ·rw[m6,uK]at hl;cases hl;exact⟨p',m6⟩
 let⟨Oh,a,rfl,_,r⟩:=a2.split;refine⟨Oh,a,rfl,λl e=>?_⟩;rw[hl]at e;cases e;exact r
def uC(xs:List V){p:Int}(h:0<=p):jN xs none (⇑p)=xs.take p.toNat:=by
 unfold jN;have e1:HT.i7 ↑xs 0 none=0:=rfl
 have e2:HT.i7 ↑xs ↑xs (⇑p)=min p.toNat ↑xs:=by
  show (if p<0 then (p+(↑xs:Int)).toNat else min p.toNat ↑xs)=_;rw[if_neg ∅]
 rw[e1,e2,List.drop_zero,Nat.sub_zero];rcases Nat.le_total p.toNat ↑xs with z|z
 ·rw[Nat.min_eq_left z]
 ·rw[Nat.min_eq_right z,tK (fT _),tK z]
def xo(xs:List V){p:Int}(h:0<=p):jN xs (⇑p) none=xs.drop p.toNat:=by
 unfold jN;have e1:HT.i7 ↑xs ↑xs none=↑xs:=rfl
 have e2:HT.i7 ↑xs 0 (⇑p)=min p.toNat ↑xs:=by
  show (if p<0 then (p+(↑xs:Int)).toNat else min p.toNat ↑xs)=_;rw[if_neg ∅]
 rw[e1,e2];rcases Nat.le_total p.toNat ↑xs with z|z
 ·rw[Nat.min_eq_left z,tK (by rw[List.length_drop];lia)]
 ·rw[Nat.min_eq_right z,List.drop_of_length_le (fT _),List.drop_of_length_le z];simp
class inductive Mr
 | mk (a r:Addr) (rs:List V) (s:Nat) (_:vs=[↥a,.int (s:Nat),↥r]) (_:H a=⇑(.lst rs)) (_:s<=↑rs) (_:↑rs<=1000) (_: ∀ (p:Addr) (H':Hp),H' p=⇑(.lst (rs.take s++[↥r]++rs.drop (s+1)))->aJ H H'->H p=none->Q ↥p H')
class inductive Sw(C:Addr)
 | mk (x d:Addr) (_:vs=[↥x]) (_:H x=⇑(.ins C d [])) (_: ∀ (st op z:Addr) (H':Hp),Sh C (λa=>a=x\/a=st\/a=op\/a=z) H' x d st op [[]] []->cL x H H'->H st=none->H op=none->H z=none->Q .fV H')
class inductive aa6(C:Addr)
 | mk (x d st op:Addr) (as:List V) (_:vs=[↥x]) (_:H x=⇑(.ins C d [("states",↥st),("openings",↥op)])) (_:H st=⇑(.lst as)) (_:Q (.int ((↑as:Nat)-1)) H)
class inductive WY(C:Addr)
 | mk (S:Addr->Prop) (x d st op:Addr) (bK:kq) (ops:List Int) (_:vs=[↥x]) (_:Sh C S H x d st op bK ops) (_:Q (.int (↑ops:Nat)) H)
theorem Ms:aH ["state","sheet","items"] ["state","sheet","items"] (aB zw):=fc
theorem xq:aH ["self"] ["self"] (aB kJ):=fc
theorem F3:aH ["self"] ["self"] (aB tY):=fc
theorem DF:aH ["self"] ["self"] (aB qJ):=fc
theorem Ai:‹(1,30,["state","sheet","items"],Mr)›:=λD=>by
 specialize fH D.Ws.F Ms;let⟨a,r,rs,s,rfl,ha,sl,l1,k⟩:=h;exists _,(ao (bS (gg (uO gy gy aC (pv 1) (ef D.T.dP (pv 0)))) (ay lN) bG) (ay (aN (bJ jC (bJ jC (jb lC (pv 0) lu (jA (pv 1))) (bO (aa (pv 2) aj))) (jb lC (pv 0) (jA (bJ eU (pv 1) aC)) lu)))));refine⟨Y,Z,Y,cT (λc0=>?_) (λc0=>absurd (decide_eq_true ∅) c0)⟩;exists Y,a,Y,.inl (bC.of ha),Z,Y;rw[decide_eq_true (show ((s:Nat):Int)<=((↑rs:Nat):Int) by lia)];refine dM ?_;refine⟨Y,Y,Y,a,Y,bC.of ha,λp1 Yd=>?_⟩;rw[uC _ ∅,Int.toNat_natCast];have s1:aJ H (aM H p1 (.lst (rs.take s))):=au Yd _;have h1:(aM H p1 (.lst (rs.take s))) p1=⇑(.lst (rs.take s)):=ah;generalize aM H p1 (.lst (rs.take s))=H1 at s1 h1;refine⟨Y,jY,λp2 Ub=>?_⟩;have s2:aJ H1 (aM H1 p2 (.lst [↥r])):=au Ub _;have h2:(aM H1 p2 (.lst [↥r])) p2=⇑(.lst [↥r]):=ah;generalize aM H1 p2 (.lst [↥r])=H2 at s2 h2;refine⟨p1,p2,Z,s2 _ _ h1,h2,(by rw[gO];exact gQ (aQ (by simp only[qy];lia))),λp3 hp3=>?_⟩;have s3:aJ H2 (aM H2 p3 (.lst (rs.take s++[↥r]))):=au hp3 _;have h3:(aM H2 p3 (.lst (rs.take s++[↥r]))) p3=⇑(.lst (rs.take s++[↥r])):=ah;generalize aM H2 p3 (.lst (rs.take s++[↥r]))=H3 at s3 h3;have O8:=s1.trans (s2.trans s3);refine⟨Y,Y,Z,Y,a,Y,bC.of (O8 _ _ ha),λp4 hp4=>?_⟩;rw[xo _ ∅,show (((s:Nat):Int)+1).toNat=s+1 by lia];have s4:aJ H3 (aM H3 p4 (.lst (rs.drop (s+1)))):=au hp4 _;have h4:(aM H3 p4 (.lst (rs.drop (s+1)))) p4=⇑(.lst (rs.drop (s+1))):=ah;generalize aM H3 p4 (.lst (rs.drop (s+1)))=H4 at s4 h4;refine⟨p3,p4,Z,s4 _ _ h3,h4,(by rw[cX,gO,List.length_drop];exact gQ (aQ (by simp only[qy];lia))),λp5 hp5=>?_⟩;have s04:=O8.trans s4;exact k p5 _ ah (s04.trans (au hp5 _)) (aU s04 hp5)
theorem vE:‹(1,31,["self"],(Sw CS))›:=λD=>by
 specialize fH D.ZX.F xq;let⟨x,d,rfl,hx,k⟩:=h;exists _,(ao (jg (pv 0) (bO (aa (bO aj) aj)) rfl) (ay (jg (pv 0) (bO aj) rfl)));refine⟨iZ,λz hz=>?_⟩;have a0:aJ H (aM H z (.lst [])):=au hz _;have z0:(aM H z (.lst [])) z=⇑(.lst []):=ah;generalize aM H z (.lst [])=H0 at a0 z0;refine⟨jY,λst uM=>?_⟩;have a1:aJ H0 (aM H0 st (.lst [↥z])):=au uM _;have b1:(aM H0 st (.lst [↥z])) st=⇑(.lst [↥z]):=ah;generalize aM H0 st (.lst [↥z])=H1 at a1 b1;have a01:=a0.trans a1;exists Y,x,CS,d,Y,a01 _ _ hx,D.cN.cl,D.j4,E;have k2:cL x H1 (aM H1 x (.ins CS d (L2.dR "states" ↥st []))):=aK x _ _;have h2:(aM H1 x (.ins CS d (L2.dR "states" ↥st []))) x=⇑(.ins CS d [("states",↥st)]):=ah;generalize aM H1 x (.ins CS d (L2.dR "states" ↥st []))=H2 at k2 h2;have WZ:st≠x:=(az (a0 _ _ hx) uM).symm;have nzx:z≠x:=(az hx hz).symm;have nzs:z≠st:=az z0 uM;have b2:=k2 _ _ b1 WZ;have z2:=k2 _ _ (a1 _ _ z0) nzx;refine⟨iZ,λop Ql=>?_⟩;have EI:op≠x:=(az h2 Ql).symm;have nso:st≠op:=az b2 Ql;have nzo:z≠op:=az z2 Ql;refine⟨Y,x,CS,d,Y,au Ql _ _ _ h2,D.cN.cl,D.nR,(by show 1<1000;decide),?_⟩
 have k5:cL x H (aM (aM H2 op (.lst [])) x (.ins CS d (L2.dR "openings" ↥op [("states",↥st)]))):=λa ob e n=>by
  rw[aG n];exact au Ql _ _ _ (k2 _ _ (a01 _ _ e) n)
 have z5:(aM (aM H2 op (.lst [])) x (.ins CS d (L2.dR "openings" ↥op [("states",↥st)]))) z=⇑(.lst []):=by rw[aG nzx];exact au Ql _ _ _ z2
 have s5:(aM (aM H2 op (.lst [])) x (.ins CS d (L2.dR "openings" ↥op [("states",↥st)]))) st=⇑(.lst [↥z]):=by rw[aG WZ];exact au Ql _ _ _ b2
 have o5:(aM (aM H2 op (.lst [])) x (.ins CS d (L2.dR "openings" ↥op [("states",↥st)]))) op=⇑(.lst []):=by rw[aG EI];exact ah
 have x5:(aM (aM H2 op (.lst [])) x (.ins CS d (L2.dR "openings" ↥op [("states",↥st)]))) x=⇑(.ins CS d [("states",↥st),("openings",↥op)]):=ah;generalize aM (aM H2 op (.lst [])) x (.ins CS d (L2.dR "openings" ↥op [("states",↥st)]))=H5 at k5 z5 s5 o5 x5
 refine k st op z _ ⟨.inl rfl,.inr (.inl rfl),.inr (.inr (.inl rfl)),λa w=>?_,x5,⟨[z],s5,.cons ⟨.inr (.inr (.inr rfl)),nzs,nzo,[],z5,.nil⟩ .nil⟩,o5,nso,⟨⟨[],V⟩,λs o e=>(by cases s <;> cases e),λm af e=>?_⟩⟩ k5 (aU a0 uM) ?_ hz
 ·rcases w with rfl|rfl|rfl|rfl
  ·exact⟨_,x5⟩
  ·exact⟨_,s5⟩
  ·exact⟨_,o5⟩
  ·exact⟨_,z5⟩
 ·match m,e with
  | 0,e=>cases e;exact fT _
  | m+1,e=>cases e
 ·exact aU a01 (iL k2 EI Ql)
theorem lF:‹(1,32,["self"],(aa6 CS))›:=λD=>by
 specialize fH D.OC.F F3;let⟨x,d,st,op,as,rfl,hx,hs,k⟩:=h;exists _,(ay (aN (bJ cS (ef D.T.dP (dH (pv 0) rfl)) aC)));exact⟨Y,x,CS,d,_,↥st,rfl,hx,D.cN.cl,D.j4,rfl,st,Y,.inl (bC.of hs),Z,k⟩
theorem sZ:‹(1,33,["self"],(WY CS))›:=λD=>by
 specialize fH D.Wu.F DF;let⟨S,x,d,st,op,bK,ops,rfl,W,k⟩:=h;let⟨as,hs,a2⟩:=W.hs;let⟨last,hl,ol⟩:=W.Qq.Cv;exists _,(ay (aN (ef D.T.dP (bI bw (dH (pv 0) rfl) (gm dQ aC)))));let⟨Oh,a,rfl,r⟩:=W.last hs;refine⟨Y,x,CS,d,_,↥st,rfl,W.hx,D.cN.cl,D.j4,rfl,Y,st,P,↥a,V,bC.of hs,(by rw[gU];exact eX _ _),?_⟩;let⟨_,_,_,rs,ha,al⟩:=r last hl;exists a,Y,.inl (bC.of ha);rw[cy,al.len,← ol];exact k
def ap1(af:List (List aR))(ch:Nat × List aR):List (List aR):=af.take ch.1++[ch.2]++af.drop (ch.1+1)
def pR(af:List (List aR))(qd:List (Nat × List aR)):List (List aR):=qd.foldl ap1 af
def W0(af:List (List aR))(qd:List (Nat × List aR)):Prop:=∀ (i:Nat) (ch:Nat × List aR),qd[i]?=⇑ch->ch.1<=↑(pR af (qd.take i))
def Sx{af:List (List aR)}{ch:Nat × List aR}(h:ch.1<=↑af):↑af<=↑(ap1 af ch)/\↑(ap1 af ch)<=↑af+1:=by
 unfold ap1;rw[cX,cX,gO,List.length_drop];simp only[qy];lia
def Cw{af:List (List aR)}{qd:List (Nat × List aR)}{i:Nat}{ch:Nat × List aR}(h:qd[i]?=⇑ch):pR af (qd.take (i+1))=ap1 (pR af (qd.take i)) ch:=by
 unfold pR;rw[take_snoc h,List.foldl_append];rfl
theorem Aj{af:List (List aR)}{qd:List (Nat × List aR)}(ok:W0 af qd):∀ i,i<=↑qd->↑af<=↑(pR af (qd.take i))/\↑(pR af (qd.take i))<=↑af+i
 | 0,_=>⟨Nat.le_refl _,fT _⟩
 | i+1,h=>by
  have e:qd[i]?=⇑qd[i]:=qB ∅;have a:=Aj ok i ∅;have b:=Sx (ok i _ e);rw[Cw e];lia
def Opn.step{bK:kq}{ops:List Int}{last af:List (List aR)}(h:Opn bK ops)(hl:bK.getLast?=⇑last)(le:↑last<=↑af):Opn (bK++[af]) (ops++List.replicate (↑af-↑last) ((↑bK:Nat):Int)):=by
 let⟨⟨l',hl',ol⟩,fit,less⟩:=h;rw[hl]at hl';cases hl'
 have get:∀ (m:Nat) (r:List (List aR)),(bK++[af])[m]?=⇑r->bK[m]?=⇑r/\m<↑bK\/m=↑bK/\r=af:=λm r e=>by
  by_cases c:m<↑bK
  ·rw[AU c]at e;exact .inl ⟨e,c⟩
  ·rw[List.getElem?_append_right ∅]at e
   match hm:m-↑bK,e with
   | 0,e=>cases e;exact .inr ⟨Q,rfl⟩
   | k+1,e=>cases e
 refine⟨⟨af,uK,by rw[cX,yl];lia⟩,λs o e=>?_,λm r e=>?_⟩
 ·by_cases c:s<↑ops
  ·rw[AU c]at e;let⟨f0,f1,f2⟩:=fit s o e;refine⟨f0,by rw[cX];simp only[qy];lia,λm r em=>?_⟩;rcases get m r em with ⟨q,_⟩|⟨rfl,rfl⟩
   ·exact f2 m r q
   ·constructor
    ·intro _;lia
    ·intro _;lia
  ·rw[List.getElem?_append_right ∅,List.getElem?_replicate]at e;split at e
   ·cases e;refine⟨Q,by rw[cX];simp only[qy];lia,λm r em=>?_⟩;rcases get m r em with ⟨q,lt⟩|⟨rfl,rfl⟩
    ·have:=less m r q;constructor
     ·intro z;lia
     ·intro z;lia
    ·constructor
     ·intro _;lia
     ·intro _;lia
   ·cases e
 ·rw[cX,yl];rcases get m r e with ⟨q,_⟩|⟨rfl,rfl⟩
  ·have:=less m r q;lia
  ·lia
theorem bV.take{α β:Type}{R:α->β->Prop}:∀ {as:List α} {bs:List β} (n:Nat),bV R as bs->bV R (as.take n) (bs.take n)
 | _,_,0,_=>by rw[List.take_zero,List.take_zero];exact .nil
 | _,_,n+1,.nil=>.nil
 | _,_,n+1,.cons e r=>.cons e (r.take n)
theorem bV.drop{α β:Type}{R:α->β->Prop}:∀ {as:List α} {bs:List β} (n:Nat),bV R as bs->bV R (as.drop n) (bs.drop n)
 | _,_,0,h=>h
 | _,_,n+1,.nil=>.nil
 | _,_,n+1,.cons _ r=>r.drop n
theorem F4(v:V):∀ n:Nat,(List.replicate n [v]).flatten=List.replicate n v
 | 0=>rfl
 | n+1=>by rw[List.replicate_succ,List.flatten_cons,F4 v n,List.replicate_succ];rfl
def Sy{H:Hp}{a:Addr}{ob:HO}(h:H a=⇑ob):aM H a ob=H:=by
 funext b;by_cases e:b=a
 ·rw[e,ah,h]
 ·rw[aG e]
def IM(H:Hp)(a:Addr)(ch:Nat × List aR):Prop:=∃ r:Addr,H a=⇑(.tup [.int (ch.1:Nat),↥r])/\bR H ↥r ch.2
theorem IM.same{H H':Hp}{a:Addr}{ch:Nat × List aR}(s:aJ H H'):IM H a ch->IM H' a ch:=λ⟨r,h1,h2⟩=>⟨r,s _ _ h1,h2.same s⟩
class inductive O9(C:Addr)
 | mk (S:Addr->Prop) (x d st op c:Addr) (bK:kq) (ops:List Int) (cs:List Addr) (qd:List (Nat × List aR)) (last:List (List aR)) (_:vs=[↥x,↥c]) (_:Sh C S H x d st op bK ops) (_:H c=⇑(.lst (cs.map V.ref))) (_:bV (IM H) cs qd) (_:bK.getLast?=⇑last) (_:W0 last qd) (_:↑qd<=200) (_:↑last<=500) (_:↑bK<=1000) (_ :
 ∀ (S':Addr->Prop) (H':Hp),Sh C S' H' x d st op (bK++[pR last qd]) (ops++List.replicate (↑(pR last qd)-↑last) ((↑bK:Nat):Int))->(∀ a,S' a->S a\/H a=none)->(∀ a ob,H a=⇑ob->¬ S a->H' a=⇑ob)->(∀ a xs,H a=⇑(.tup xs)->H' a=⇑(.tup xs))->Q .fV H')
theorem iP:aH ["self","changes","state","ahead","sheet","items"] ["self","changes"] (aB qK):=fc
theorem Ba:‹(2,34,["self","changes"],(O9 CS))›:=λD=>by
 specialize fH D.ZY.F iP;let⟨S,x,d,st,op,c,bK,ops,cs,qd,last,rfl,W,hc,a2,hl,okc,lc,ll,lp,k⟩:=h;exists _,(ao (aW (i:=2) iP.nd (bI bw (dH (pv 0) rfl) (gm dQ aC))) (ao (aW (i:=3) iP.nd (ef D.T.dP (pv 2))) (ao (dN PassesOwn.never rfl (cz (pv 1)) (oM (n:=2) rfl (b9 (bW (i:=4) iP.nd) (b9 (bW (i:=5) iP.nd) iI))) (ay (aW (i:=2) iP.nd (aI D.Ws (Ai D) hr (aa (pv 2) (aa (pv 4) (aa (eT fY rfl D.T.i6 sf (aa (pv 5) aj)) aj))))))) (ao (aV (dI qm jQ jR bT (dH (pv 0) rfl) (aa (pv 2) aj))) (ay (we (pv 0) (bJ NB (bO (aa (fQ (pv 0) D.cN D.OC (lF D) hr cj) aj)) (bJ cS (ef D.T.dP (pv 2)) (pv 3))) Il))))));let⟨as,hs,al⟩:=id W.hs;let⟨Oh,a,ea,r⟩:=W.last hs;let⟨Sa,na1,na2,rs,ha,ar⟩:=r last hl;have lal:=al.len;refine⟨Y,x,CS,d,_,↥st,rfl,W.hx,D.cN.cl,D.j4,rfl,Y,st,P,↥a,V,bC.of hs,(by rw[ea,gU];exact eX _ _),?_⟩;exists Y,a,Y,.inl (bC.of ha);rw[cy,ar.len];have uM:∀ q,H q=none->q≠st/\q≠op:=λq hq=>⟨λz=>(by rw[z,hs]at hq;cases hq),λz=>(by rw[z,W.ho]at hq;cases hq)⟩;refine⟨Y,c,rfl,⟨_,bC.of hc⟩,dz (K:=K) (a:=c) (xs:=cs.map V.ref) (λi σ H1=>∃ (u4 u5:Option V) (S1:Addr->Prop) (ai:Addr),σ=[⇑↥x,⇑↥c,⇑↥ai,⇑(.int (↑last:Nat)),u4,u5]/\aJ H H1/\(∀ q,S q->S1 q)/\(∀ q,S1 q->S q\/H q=none)/\(∀ q,S1 q->∃ ob,H1 q=⇑ob)/\IL S1 H1 st op ai (pR last (qd.take i))) ⟨none,none,S,a,rfl,aJ.refl _,λ_ z=>z,λ_ z=>.inl z,W.al,r last hl⟩ (by rintro i σ H1 _ ⟨_,_,_,_,_,s,_⟩;exact bC.of (s _ _ hc)) ?_ ?_⟩
 ·rintro i y σ H1 hi ⟨u4,u5,S1,ai,rfl,s1,up,sub,al1,sa1⟩;rw[gf]at hi;let⟨t,et,rfl⟩:=Option.map_eq_some_iff.mp hi;let⟨ch,ech,q⟩:=a2.get et;have il:=(List.getElem?_eq_some_iff.mp ech).1;let⟨ri,ht,hri⟩:=q.same s1;let⟨b,vs,eb,hb,itb⟩:=id hri;cases eb;let⟨Sai,aa9,ae9,rsi,hai,ari⟩:=id sa1;exists t,Y,gV.of ht,rfl,P,rfl,Z;refine⟨Y,Y,Y,ri,Y,.inl (bC.of hb),λz hz=>?_⟩;have s2:aJ H1 (aM H1 z (.lst vs)):=au hz _;have z2:(aM H1 z (.lst vs)) z=⇑(.lst vs):=ah;generalize aM H1 z (.lst vs)=H2 at s2 z2;have lens:=Aj okc i ∅;have afa:=okc i ch ech;have lri:=ari.len;refine⟨ai,z,_,ch.1,rfl,s2 _ _ hai,by rw[cy,lri];exact afa,by rw[cy,lri];lia,λp H3 hp3 s3 fp=>?_⟩;have s23:=s2.trans s3;have fz:H z=none:=aU s1 hz;have fp':H p=none:=aU (s1.trans s2) fp;exists P,λq=>S1 q\/q=z\/q=p,p,rfl,s1.trans s23,λq z=>.inl (up q z),λq w=>?_,λq w=>?_,.inr (.inr rfl),(uM p fp').1,(uM p fp').2,rsi.take ch.1++[z]++rsi.drop (ch.1+1),?_
  ·rcases w with w|rfl|rfl
   ·exact sub q w
   ·exact .inr fz
   ·exact .inr fp'
  ·rcases w with w|rfl|rfl
   ·let⟨ob,e⟩:=al1 q w;exact⟨ob,s23 _ _ e⟩
   ·exact⟨_,s3 _ _ z2⟩
   ·exact⟨_,hp3⟩
  ·rw[hp3];simp only[gU,List.map_take,List.map_drop,jy,List.map_nil]
  ·rw[Cw ech];have mv:bV (aa5 (λq=>S1 q\/q=z\/q=p) H3 st op) rsi (pR last (qd.take i)):=ari.mono λr aP q=>⟨.inl q.own,q.ne,q.at'.same s23⟩;refine ((mv.take ch.1).app (.cons ⟨.inr (.inl rfl),uM z fz,⟨z,vs,rfl,s3 _ _ z2,itb.mono λv it q=>q.same s23⟩⟩ .nil)).app (mv.drop (ch.1+1))
 ·rintro σ H1 ⟨u4,u5,S1,ai,rfl,s1,up,sub,al1,sa1⟩;have lcs:↑(cs.map V.ref)=↑qd:=by rw[cy,a2.len]
  rw[lcs,gP]at sa1;have lens:=Aj okc ↑qd (fT _);rw[gP]at lens;let⟨Sai,aa9,ae9,rsi,hai,ari⟩:=id sa1;have lri:=ari.len;have W1:=W.same s1;have Xa:=s1 _ _ hs;refine⟨Y,x,CS,d,_,↥st,rfl,W1.hx,D.cN.cl,D.j4,rfl,.inl ⟨rfl,_,bC.of Xa⟩,Y,st,Z,Xa,(by rw[cy];exact aQ ∅),?_⟩;rw[show as.map V.ref++[↥ai]=(as++[ai]).map V.ref by rw[gU];rfl];have k2:cL st H1 (aM H1 st (.lst ((as++[ai]).map V.ref))):=aK st _ _;have st2:(aM H1 st (.lst ((as++[ai]).map V.ref))) st=⇑(.lst ((as++[ai]).map V.ref)):=ah;generalize aM H1 st (.lst ((as++[ai]).map V.ref))=H2 at k2 st2;have nxs:x≠st:=cY W1.hx Xa;have nxo:x≠op:=cY W1.hx W1.ho;have x2:=k2 _ _ W1.hx nxs;have o2:=k2 _ _ W1.ho W.ne.symm;have ai2:=k2 _ _ hai aa9
  have lmn:(↑((as++[ai]).map V.ref):Int)-1=((↑bK:Nat):Int):=by
   rw[cy,cX,lal];simp only[qy];lia
  exists Y,x,CS,d,_,↥op,rfl,x2,D.cN.cl,D.nR,rfl,Y,x,d,Y,x2,rfl,x,d,st,op,Y,x2,st2;rw[lmn];refine⟨jY,λt2 Ih=>?_⟩;have s3:aJ H2 (aM H2 t2 (.lst [.int (↑bK:Nat)])):=au Ih _;have b3:(aM H2 t2 (.lst [.int (↑bK:Nat)])) t2=⇑(.lst [.int (↑bK:Nat)]):=ah;generalize aM H2 t2 (.lst [.int (↑bK:Nat)])=H3 at s3 b3;exists Y,ai,Y,.inl (bC.of (s3 _ _ ai2)),Y,Z;rw[cy,lri];have ek:((↑(pR last qd):Nat):Int)-((↑last:Nat):Int)=((↑(pR last qd)-↑last:Nat):Int):=by lia
  show Y8 _ (V.int (((↑(pR last qd):Nat):Int)-((↑last:Nat):Int))) _ _;rw[ek];refine⟨t2,Z,b3,Q,Q,(by simp only[qy];exact gQ (aQ ∅)),λt3 ht3=>?_⟩;rw[Int.toNat_natCast,F4];generalize hk:↑(pR last qd)-↑last=kk;have s4:aJ H3 (aM H3 t3 (.lst (List.replicate kk (V.int (↑bK:Nat))))):=au ht3 _;have b4:(aM H3 t3 (.lst (List.replicate kk (V.int (↑bK:Nat))))) t3=⇑(.lst (List.replicate kk (V.int (↑bK:Nat)))):=ah;generalize aM H3 t3 (.lst (List.replicate kk (V.int (↑bK:Nat))))=H4 at s4 b4;have s24:=s3.trans s4
  have lo:↑ops<=700:=by
   let⟨l',hl',ol⟩:=W.Qq.Cv;rw[hl]at hl';cases hl';lia
  refine⟨op,t3,Z,s24 _ _ o2,b4,(by rw[cy,yl];exact gQ (aQ ∅)),?_⟩;rw[show ops.map V.int++List.replicate kk (V.int (↑bK:Nat))=(ops++List.replicate kk ((↑bK:Nat):Int)).map V.int by rw[gU,List.map_replicate]];have k5:cL op H4 (aM H4 op (.lst ((ops++List.replicate kk ((↑bK:Nat):Int)).map V.int))):=aK op _ _;have o5:(aM H4 op (.lst ((ops++List.replicate kk ((↑bK:Nat):Int)).map V.int))) op=⇑(.lst ((ops++List.replicate kk ((↑bK:Nat):Int)).map V.int)):=ah;generalize aM H4 op (.lst ((ops++List.replicate kk ((↑bK:Nat):Int)).map V.int))=H5 at k5 o5;have x5:=k5 _ _ (s24 _ _ x2) nxo;refine⟨d,_,x5,(by show 2<1000;decide),?_⟩;have e5:aM H5 x (.ins CS d (L2.dR "openings" ↥op ([("states",↥st),("openings",↥op)]:List (Str × V))))=H5:=Sy x5;rw[e5];have k15:∀ q ob,H1 q=⇑ob->q≠st->q≠op->H5 q=⇑ob:=λq ob e m1 m2=>k5 _ _ (s24 _ _ (k2 _ _ e m1)) m2;have t15:∀ q xs,H1 q=⇑(.tup xs)->H5 q=⇑(.tup xs):=λq xs e=>k15 _ _ e (cY e Xa) (cY e W1.ho);have XT:=k5 _ _ (s24 _ _ st2) W.ne;refine k S1 H5 ⟨up _ W.sx,up _ W.ss,up _ W.so,λq w=>?_,x5,⟨as++[ai],XT,?_⟩,by rw[hk];exact o5,W.ne,W.Qq.step hl lens.1⟩ sub (λq ob e n=>?_) (λq xs e=>t15 _ _ (s1 _ _ e))
  ·by_cases z1:q=st
   ·rw[z1];exact⟨_,XT⟩
   by_cases z2:q=op
   ·rw[z2];exact⟨_,o5⟩
   let⟨ob,e⟩:=al1 q w;exact⟨ob,k15 _ _ e z1 z2⟩
  ·refine (bV.mono (λa af q=>?_) al).app (.cons (sa1.fr (λ_ z=>z) (λq ob e _ m1 m2=>k15 _ _ e m1 m2) t15) .nil);exact q.fr up (λq ob e _ m1 m2=>k15 _ _ (s1 _ _ e) m1 m2) (λq xs e=>t15 _ _ (s1 _ _ e))
  ·exact k15 _ _ (s1 _ _ e) (λz=>n (by rw[z];exact W.ss)) (λz=>n (by rw[z];exact W.so))
def y9(n:Nat)(a:Int):Prop:=0<=a/\a<(n:Nat)
def y9.get{n:Nat}{a:Int}(h:y9 n a):∃ j:Nat,a=j/\j<n:=by
 let⟨h0,h1⟩:=h;exact⟨a.toNat,Q,Q⟩
def abb(bK:kq)(ops:List Int):Prop:=↑bK<=1000/\↑ops<=1000
class inductive Cz(C:Addr)
 | mk (S:Addr->Prop) (x d st op:Addr) (bK:kq) (ops:List Int) (s:Int) (_:vs=[↥x,.int s]) (_:Sh C S H x d st op bK ops) (_:y9 ↑ops s) (_:Q .fV H)
class inductive Mt(C:Addr)
 | mk (S:Addr->Prop) (x d st op:Addr) (bK:kq) (ops:List Int) (m:Int) (_:vs=[↥x,.int m]) (_:Sh C S H x d st op bK ops) (_:y9 ↑bK m) (_:Q .fV H)
def Told(H:Hp)(aP:List aR)(Q:V->Hp->Prop):Prop:=∀ (q:Addr) (H':Hp),bR H' ↥q aP->aJ H H'->H q=none->Q ↥q H'
class inductive Xb(C:Addr)
 | mk (S:Addr->Prop) (x d st op:Addr) (bK:kq) (ops:List Int) (s:Int) (_:vs=[↥x,.int s]) (_:Sh C S H x d st op bK ops) (_:y9 ↑ops s) (_:(∀ (si:Nat) (last:List (List aR)) (aP:List aR),s=si->bK.getLast?=⇑last->last[si]?=⇑aP->Told H aP Q))
def Sz(H H':Hp)(q:Addr)(af:List (List aR)):Prop:=H q=none/\∃ rs:List Addr,H' q=⇑(.lst (rs.map V.ref))/\bV (λr aP=>H r=none/\r≠q/\bR H' ↥r aP) rs af
class inductive F5(C:Addr)
 | mk (S:Addr->Prop) (x d st op:Addr) (bK:kq) (ops:List Int) (m:Int) (_:vs=[↥x,.int m]) (_:Sh C S H x d st op bK ops) (_:abb bK ops) (_:y9 ↑bK m) (_:(∀ (mi:Nat) (af:List (List aR)),m=mi->bK[mi]?=⇑af->∀ (q:Addr) (H':Hp),Sz H H' q af->aJ H H'->Q ↥q H'))
class inductive Pa(C:Addr)
 | mk (S:Addr->Prop) (x d st op:Addr) (bK:kq) (ops:List Int) (_:vs=[↥x]) (_:Sh C S H x d st op bK ops) (_:abb bK ops) (_:(∀ (af:List (List aR)),bK.getLast?=⇑af->∀ (q:Addr) (H':Hp),Sz H H' q af->aJ H H'->Q ↥q H'))
theorem sF:aH ["self","sheet"] ["self","sheet"] (aB jj):=fc
theorem qX:aH ["self","moment"] ["self","moment"] (aB iV):=fc
theorem F6:aH ["self","sheet"] ["self","sheet"] (aB tZ):=fc
theorem vF:aH ["self","moment"] ["self","moment"] (aB iK):=fc
theorem DG:aH ["self"] ["self"] (aB qL):=fc
theorem dD:‹(2,35,["self","sheet"],(Cz CS))›:=λD=>by
 specialize fH D.Iw.F sF;let⟨S,x,d,st,op,bK,ops,a,rfl,W,iw,k1⟩:=h;exists _,(ay (bS (gg (uO gy mS aC (pv 1) (fQ (pv 0) D.cN D.Wu (sZ D) hr cj))) (ay lN) bG));exists Y,Z,Y;rw[decide_eq_true iw.1];refine cT (λ_=>?_) (λc=>absurd rfl c);exists Y,x,d,Y,W.hx,rfl,S,x,d,st,op,bK,ops,rfl,W,Z,Y;rw[decide_eq_true iw.2];exact dM k1
theorem qu:‹(2,36,["self","moment"],(Mt CS))›:=λD=>by
 specialize fH D.ZZ.F qX;let⟨S,x,d,st,op,bK,ops,a,rfl,W,iw,k1⟩:=h;let⟨as,hs,al⟩:=W.hs;exists _,(ay (bS (gg (uO gy gy aC (pv 1) (fQ (pv 0) D.cN D.OC (lF D) hr cj))) (ay lN) bG));exists Y,Z,Y;rw[decide_eq_true iw.1];refine cT (λ_=>?_) (λc=>absurd rfl c);exists Y,x,d,Y,W.hx,rfl,x,d,st,op,Y,W.hx,hs,Z,Y;rw[decide_eq_true (show a<=(↑(as.map V.ref):Int)-1 by rw[cy,al.len];exact Int.le_sub_one_of_lt iw.2)];exact dM k1
def Sh.at'{C:Addr}{S:Addr->Prop}{H:Hp}{x d st:Addr}{bK:kq}{ops:List Int}(h:Sh C S H x d st op bK ops){as:List Addr}(ha:H st=⇑(.lst (as.map V.ref))){i:Nat}{af:List (List aR)}(e:bK[i]?=⇑af):∃ a,as[i]?=⇑a/\IL S H st op a af:=by
 let⟨bs,hb,a2⟩:=h.hs
 have e':as=bs:=by
  rw[ha]at hb;exact Ah (HO.lst.inj (qC hb))
 subst e';exact a2.get' e
def Sh.Uw{C:Addr}{S:Addr->Prop}{H:Hp}{x d st:Addr}{bK:kq}{ops:List Int}(h:Sh C S H x d st op bK ops):∃ last,bK.getLast?=⇑last/\bK[↑bK-1]?=⇑last/\↑ops=↑last:=by
 let⟨last,hl,ol⟩:=h.Qq.Cv;refine⟨last,hl,?_,ol⟩;rw[List.getLast?_eq_getElem?]at hl;exact hl
theorem DH:‹(3,39,["self","sheet"],(Xb CS))›:=λD=>by
 specialize fH D.Z1.F F6;let⟨S,x,d,st,op,bK,ops,a,rfl,W,ia,k1⟩:=h;exists _,(ao (aV (eN (pv 0) D.cN D.Iw (dD D) hr cj (aa (pv 1) aj))) (ay (aN (eT fY rfl D.T.i6 sf (aa (bI bw (bI bw (dH (pv 0) rfl) (gm dQ aC)) (pv 1)) aj)))));exists Y,x,d,Y,W.hx,rfl,Y,S,x,d,st,op,bK,ops,a,rfl,W,ia;let⟨j,rfl,jl⟩:=ia.get;let⟨as,hs,al⟩:=id W.hs;let⟨Oh,b,ea,r⟩:=W.last hs;let⟨last,hl,_,ol⟩:=W.Uw;let⟨_,_,_,rs,hb,ar⟩:=r last hl;have el:last[j]?=⇑last[j]:=qB ∅;let⟨ri,eri,jU⟩:=ar.get' el;let⟨c,vs,ec,hc,it⟩:=jU.at';cases ec;refine⟨Y,x,CS,d,_,↥st,rfl,W.hx,D.cN.cl,D.j4,rfl,Y,st,P,↥b,V,bC.of hs,(by rw[ea,gU];exact eX _ _),Y,b,P,↥ri,V,bC.of hb,dF (by rw[gf,eri];rfl),ri,Y,.inl (bC.of hc),λq hq=>?_⟩;exact k1 j last _ rfl hl el q _ ⟨q,vs,rfl,ah,it.mono λv i z=>z.same (au hq _)⟩ (au hq _) hq
theorem uD:‹(3,37,["self","moment"],(F5 CS))›:=λD=>by
 specialize fH D.Z0.F vF;let⟨S,x,d,st,op,bK,ops,m,rfl,W,ok,im,k1⟩:=h;let⟨as,hs,al⟩:=id W.hs;refine⟨_,(ao (aV (eN (pv 0) D.cN D.ZZ (qu D) hr cj (aa (pv 1) aj))) (ay (aN (gI (N:=["items"]) (mq (sc:=aB iK) (NX:=["self","moment"]) (jx:=[none]) rfl rfl rfl nofun nofun rfl nofun rfl nofun) rfl (cz (bI bw (dH (pv 0) rfl) (pv 1))) (λ_ _ _ _ _ _=>(bW (i:=0) (show List.Nodup (["items"]:List Str) by decide +kernel))) (λ_ _ _ _ _ _=>gX) (λ_ _ _ _ _ _=>(eT Ik rfl D.T.i6 sf (aa (pv 0) aj))))))),?_⟩;exists Y,x,d,Y,W.hx,rfl,Y,S,x,d,st,op,bK,ops,m,rfl,W,im;let⟨i,rfl,il⟩:=im.get;have er:bK[i]?=⇑bK[i]:=qB il;generalize bK[i]=af at er;let⟨b,eb,_,_,_,rs,hb,ar⟩:=W.at' hs er;have lr:=ar.len;have lo:=W.Qq.less i af er;have ok2:=ok.2;refine⟨Y,x,CS,d,_,↥st,rfl,W.hx,D.cN.cl,D.j4,rfl,Y,st,P,↥b,V,bC.of hs,dF (by rw[gf,eb];rfl),?_⟩;refine⟨b,rfl,⟨_,bC.of hb⟩,λacc cK=>gD (K:=K) (a:=b) (xs:=rs.map V.ref) (λj σ H1=>∃ (u:Option V) (qs:List Addr),σ=[u]/\H1 acc=⇑(.lst (qs.map V.ref))/\aJ H H1/\bV (λr aP=>H r=none/\r≠acc/\bR H1 ↥r aP) qs (af.take j)) ⟨none,[],rfl,ah,au cK _,by rw[List.take_zero];exact .nil⟩ (λj σ H1 _ ⟨K,_,s,_⟩=>bC.of (s _ _ hb)) ?_ ?_⟩
 ·rintro j y σ H1 hj ⟨u,qs,rfl,ha,s1,aq⟩;rw[gf]at hj;let⟨ri,eri,rfl⟩:=Option.map_eq_some_iff.mp hj;let⟨aP,afg,jU⟩:=ar.get eri;let⟨c,vs,ec,hc,it⟩:=jU.at';cases ec;refine⟨Y,ri,Y,.inl (bC.of (s1 _ _ hc)),λz hz=>⟨_,au hz _ _ _ ha,?_,_,qs++[z],rfl,?_,?_,?_⟩⟩
  ·have:=aq.len;rw[gO]at this;rw[cy];exact aQ ∅
  ·rw[ah,gU];rfl
  ·intro q ob e;rw[aG (az e cK)];exact au hz _ _ _ (s1 _ _ e)
  ·have nza:z≠acc:=(az ha hz).symm
   have fr:∀ q ob,H1 q=⇑ob->q≠acc->(aM (aM H1 z (.lst vs)) acc (.lst (qs.map V.ref++[↥z]))) q=⇑ob:=λq ob e n=>by
    rw[aG n];exact au hz _ _ _ e
   have tu:∀ q xs,H1 q=⇑(.tup xs)->(aM (aM H1 z (.lst vs)) acc (.lst (qs.map V.ref++[↥z]))) q=⇑(.tup xs):=λq xs e=>fr _ _ e (cY e ha (by intro w;cases w));rw[take_snoc afg];refine bV.snoc (aq.mono λr aP ⟨h1,h2,h3⟩=>⟨h1,h2,h3.fr (λxs e=>fr _ _ e h2) tu⟩) ⟨aU s1 hz,nza,z,vs,rfl,?_,it.mono λv i ⟨q,e,hq⟩=>⟨q,e,tu _ _ (s1 _ _ hq)⟩⟩;rw[aG nza];exact ah
 ·rintro σ H1 ⟨u,qs,rfl,ha,s1,aq⟩;rw[cy,lr,gP]at aq;exact k1 i af rfl er acc H1 ⟨cK,qs,ha,aq⟩ s1
theorem gM:‹(4,38,["self"],(Pa CS))›:=λD=>by
 specialize fH D.Iz.F DG;let⟨S,x,d,st,op,bK,ops,rfl,W,ok,k⟩:=h;let⟨as,hs,al⟩:=id W.hs;let⟨last,hl,A0,_⟩:=W.Uw;have lp:↑bK-1<↑bK:=(List.getElem?_eq_some_iff.mp A0).1;have ok1:=ok.1;have la:((↑(as.map V.ref):Nat):Int)-1=((↑bK-1:Nat):Int):=by rw[cy,al.len];lia
 exists _,(ay (aN (eN (pv 0) D.cN D.Z0 (uD D) hr cj (aa (fQ (pv 0) D.cN D.OC (lF D) hr cj) aj))));exists Y,x,d,Y,W.hx,rfl,Y,x,d,Y,W.hx,rfl,x,d,st,op,Y,W.hx,hs;rw[la];refine⟨S,x,d,st,op,bK,ops,Y,W,ok,⟨Q,Q⟩,λmi af em er q H1 fs s1=>?_⟩;have:mi=↑bK-1:=by lia
 subst this;rw[A0]at er;cases er;exact k last hl q H1 fs s1
class inductive Kr(C:Addr)
 | mk (x d:Addr) (_:vs=[↥x]) (_:H x=⇑(.ins C d [])) (_: ∀ (fs:List (Str × V)) (H':Hp),H' x=⇑(.ins C d fs)->cL x H H'->Q .fV H')
theorem yv:aH ["self"] ["self"] (aB lP):=fc
theorem yx:aH ["self"] ["self"] (aB lQ):=fc
theorem F7{x z:Addr}{H:Hp}{o o':HO}(hz:H z=none):cL x H (aM (aM H z o) x o'):=λa ob e n=>by
 rw[aG n];exact au hz o a ob e
theorem xr:‹(1,41,["self"],(Kr CD))›:=λD=>by
 specialize fH D.Z3.F yx;let⟨x,d,rfl,hx,k⟩:=h;exists _,(ay (jg (pv 0) mh rfl));intro z hz;exact⟨Y,x,CD,d,Y,au hz _ _ _ hx,D.FA.cl,D.JP,E,k _ _ ah (F7 hz)⟩
theorem xu:‹(1,40,["self"],(Kr CT))›:=λD=>by
 specialize fH D.Z2.F yv;let⟨x,d,rfl,hx,k⟩:=h;exists _,(ao (jg (pv 0) aC rfl) (ay (jg (pv 0) mh rfl)));exists Y,x,CT,d,Y,hx,D.Cm.cl,D.C6,E;have k1:cL x H (aM H x (.ins CT d (L2.dR "given" (.int 0) []))):=aK x _ _;have h1:(aM H x (.ins CT d (L2.dR "given" (.int 0) []))) x=⇑(.ins CT d (L2.dR "given" (.int 0) [])):=ah;generalize aM H x (.ins CT d (L2.dR "given" (.int 0) []))=H1 at k1 h1;intro z hz;exact⟨Y,x,CT,d,Y,au hz _ _ _ h1,D.Cm.cl,D.C7,(by show 1<1000;decide),k _ _ ah (k1.trans (F7 hz))⟩
def Pb(aL:iF):List V:=aL.map λp=>yU p.2
def JG(aL:iF):List V:=aL.map λp=>V.int p.1
def pS(h:Int)(cs:List Nat):iF:=cs.map λc=>(h,c)
theorem rX(h:Int)(cs:List Nat):↑(pS h cs)=↑cs:=cy ..
def SA(aL:iF)(h:Int)(cs:List Nat):Pb (aL++pS h cs)=Pb aL++cs.map yU:=by
 unfold Pb pS;rw[gU,List.map_map];rfl
theorem DJ(v:V):∀ n:Nat,(List.replicate n [v]).flatten=List.replicate n v
 | 0=>rfl
 | n+1=>by rw[List.replicate_succ,List.flatten_cons,DJ v n,List.replicate_succ];rfl
def SD(aL:iF)(h:Int)(cs:List Nat):JG (aL++pS h cs)=JG aL++(List.replicate ↑cs [V.int h]).flatten:=by
 rw[DJ];unfold JG pS;rw[gU,List.map_map];congr 1;exact List.map_eq_replicate_iff.mpr λc _=>rfl
def uE(h:Int):Nat->iF->List Int
 | _,[]=>[]
 | i,p::r=>if p.1=h then (i:Int)::uE h (i+1) r else uE h (i+1) r
theorem mG(h:Int):∀ (a b:iF) (i:Nat),uE h i (a++b)=uE h i a++uE h (i+↑a) b
 | [],b,i=>rfl
 | p::a,b,i=>by
  rw[List.cons_append,uE,uE,kX,mG h a b (i+1),show i+1+↑a=i+(↑a+1) by lia]
  split <;> rfl
theorem xx(h:Int):∀ (cs:List Nat) (i:Nat),uE h i (pS h cs)=run (i:Int) ↑cs
 | [],i=>rfl
 | c::cs,i=>by
  show uE h i ((h,c)::pS h cs)=_;rw[uE,if_pos rfl,xx h cs (i+1),kX,run,show ((i+1:Nat):Int)=(i:Int)+1 by lia]
theorem mH{h g:Int}(n:g≠h):∀ (cs:List Nat) (i:Nat),uE h i (pS g cs)=[]
 | [],i=>rfl
 | c::cs,i=>by
  show uE h i ((g,c)::pS g cs)=_;rw[uE,if_neg n,mH n cs (i+1)]
def Ak(a b:Int)(k:Nat)(e:b=a+k):bz [(a,b)]=run a k:=by
 show jH (a,b)++[]=_;rw[ic];show run a (b-a).toNat=_;rw[show (b-a).toNat=k by lia]
structure Pw(S:Addr->Prop)(H:Hp)(s o:Addr)(n:Nat)(kvs:List (eY × V))(aL:iF):Prop where
 got:∀ h v,cC kvs (Sum.inl h)=⇑v->∃ (l:Addr) (row:Row),v=↥l/\S l/\l≠s/\l≠o/\cB H l row/\(∀ p∈row,p.1<=p.2)/\bz row=uE h 0 aL/\↑row<=n
 fV:∀ h,cC kvs (Sum.inl h)=none->uE h 0 aL=[]
 one:∀ h g v,cC kvs (Sum.inl h)=⇑v->cC kvs (Sum.inl g)=⇑v->h=g
 len:↑kvs<=n
structure We(C:Addr)(S:Addr->Prop)(H:Hp)(x d s o p:Addr)(n:Nat)(aL:iF):Prop where
 sx:S x
 ss:S s
 so:S o
 sp:S p
 al:∀ a,S a->∃ ob,H a=⇑ob
 hx:H x=⇑(.ins C d [("signs",↥s),("owners",↥o),("pourings",↥p)])
 hs:H s=⇑(.lst (Pb aL))
 ho:H o=⇑(.lst (JG aL))
 ne:s≠o
 dk:∃ kvs,H p=⇑(.dK kvs)/\Pw S H s o n kvs aL
def cB.two{H H':Hp}{r:Addr}{row:Row}(h:cB H r row)(k:∀ xs,H r=⇑(.lst xs)->H' r=⇑(.lst xs))(t:∀ a xs,H a=⇑(.tup xs)->H' a=⇑(.tup xs)):cB H' r row:=by
 let⟨as,h1,h2⟩:=h;exact⟨as,k _ h1,h2.tups t⟩
def We.fr{C:Addr}{S:Addr->Prop}{H H':Hp}{x d s o p:Addr}{n:Nat}{aL:iF}(h:We C S H x d s o p n aL)(k:∀ a ob,H a=⇑ob->S a->H' a=⇑ob)(t:∀ a xs,H a=⇑(.tup xs)->H' a=⇑(.tup xs)):We C S H' x d s o p n aL:=by
 let⟨sx,ss,so,sp,al,hx,hs,ho,ne,kvs,hp,pw⟩:=h;refine⟨sx,ss,so,sp,λa z=>?_,k _ _ hx sx,k _ _ hs ss,k _ _ ho so,ne,kvs,k _ _ hp sp,λh v e=>?_,pw.fV,pw.one,pw.len⟩
 ·let⟨ob,e⟩:=al a z;exact⟨ob,k _ _ e z⟩
 ·let⟨l,row,e1,e2,e3,e4,e5,r⟩:=pw.got h v e;exact⟨l,row,e1,e2,e3,e4,e5.two (λxs q=>k _ _ q e2) t,r⟩
theorem We.same{C:Addr}{S:Addr->Prop}{H H':Hp}{x d s o p:Addr}{n:Nat}{aL:iF}(h:We C S H x d s o p n aL)(k:aJ H H'):We C S H' x d s o p n aL:=h.fr (λa ob e _=>k a ob e) (λa xs e=>k _ _ e)
theorem Ks(aL:iF):↑(Pb aL)=↑aL:=cy ..
theorem SE(aL:iF):↑(JG aL)=↑aL:=cy ..
def Pc{H:Hp}{a:Addr}{ob:HO}(h:H a=⇑ob):aM H a ob=H:=by
 funext b;by_cases e:b=a
 ·rw[e,ah,h]
 ·rw[aG e]
class inductive SG(C:Addr)
 | mk (x d:Addr) (_:vs=[↥x]) (_:H x=⇑(.ins C d [])) (_: ∀ (s o p:Addr) (H':Hp),We C (λa=>a=x\/a=s\/a=o\/a=p) H' x d s o p 0 []->cL x H H'->H s=none->H o=none->H p=none->Q .fV H')
class inductive SH(C:Addr)
 | mk (x d s o p:Addr) (aL:iF) (_:vs=[↥x]) (_:H x=⇑(.ins C d [("signs",↥s),("owners",↥o),("pourings",↥p)])) (_:H s=⇑(.lst (Pb aL))) (_:Q (.int (↑aL:Nat)) H)
class inductive Xc(C:Addr)
 | mk (S:Addr->Prop) (x d s o p:Addr) (n:Nat) (aL:iF) (h:Int) (cs:List Nat) (_:vs=[↥x,.int h,.str (fk cs)]) (_:We C S H x d s o p n aL) (_:↑aL+↑cs<=100000) (_:n<=1000) (_ :
 ∀ (S':Addr->Prop) (q:Addr) (H':Hp),We C S' H' x d s o p (n+1) (aL++pS h cs)->H' q=⇑(.tup [.int (↑aL:Nat),.int (↑(aL++pS h cs):Nat)])->(∀ a,S' a->S a\/H a=none)->(∀ a ob,H a=⇑ob->¬ S a->H' a=⇑ob)->(∀ a xs,H a=⇑(.tup xs)->H' a=⇑(.tup xs))->Q ↥q H')
theorem yz:aH ["self"] ["self"] (aB lR):=fc
theorem F8:aH ["self"] ["self"] (aB t6):=fc
theorem qY:aH ["self","hand","text","start","stretch"] ["self","hand","text"] (aB t7):=fc
theorem xy:‹(1,42,["self"],(SG CW))›:=λD=>by
 specialize fH D.Z4.F yz;let⟨x,d,rfl,hx,k⟩:=h;exists _,(ao (jg (pv 0) (bO aj) rfl) (ao (jg (pv 0) (bO aj) rfl) (ay (jg (pv 0) mh rfl))));refine⟨iZ,λs hs=>?_⟩;have a1:aJ H (aM H s (.lst [])):=au hs _;have b1:(aM H s (.lst [])) s=⇑(.lst []):=ah;generalize aM H s (.lst [])=H1 at a1 b1;exists Y,x,CW,d,Y,a1 _ _ hx,D.jc.cl,D.ug,E;have k2:cL x H1 (aM H1 x (.ins CW d (L2.dR "signs" ↥s []))):=aK x _ _;have h2:(aM H1 x (.ins CW d (L2.dR "signs" ↥s []))) x=⇑(.ins CW d [("signs",↥s)]):=ah;generalize aM H1 x (.ins CW d (L2.dR "signs" ↥s []))=H2 at k2 h2;have WZ:s≠x:=(az hx hs).symm;have b2:=k2 _ _ b1 WZ;refine⟨iZ,λo ho=>?_⟩;have a3:aJ H2 (aM H2 o (.lst [])):=au ho _;have c3:(aM H2 o (.lst [])) o=⇑(.lst []):=ah;generalize aM H2 o (.lst [])=H3 at a3 c3;refine⟨Y,x,CW,d,Y,a3 _ _ h2,D.jc.cl,D.uX,(by show 1<1000;decide),?_⟩;have k4:cL x H3 (aM H3 x (.ins CW d (L2.dR "owners" ↥o [("signs",↥s)]))):=aK x _ _;have h4:(aM H3 x (.ins CW d (L2.dR "owners" ↥o [("signs",↥s)]))) x=⇑(.ins CW d [("signs",↥s),("owners",↥o)]):=ah;generalize aM H3 x (.ins CW d (L2.dR "owners" ↥o [("signs",↥s)]))=H4 at k4 h4;have EI:o≠x:=(az h2 ho).symm;have c4:=k4 _ _ c3 EI;have b4:=k4 _ _ (a3 _ _ b2) WZ;intro p hp;have npx:p≠x:=(az h4 hp).symm;refine⟨Y,x,CW,d,Y,au hp _ _ _ h4,D.jc.cl,D.nU,(by show 2<1000;decide),?_⟩
 have k5:cL x H (aM (aM H4 p (.dK [])) x (.ins CW d (L2.dR "pourings" ↥p [("signs",↥s),("owners",↥o)]))):=λa ob e n=>by
  rw[aG n];exact au hp _ _ _ (k4 _ _ (a3 _ _ (k2 _ _ (a1 _ _ e) n)) n)
 refine k s o p _ ⟨.inl rfl,.inr (.inl rfl),.inr (.inr (.inl rfl)),.inr (.inr (.inr rfl)),λa z=>?_,ah,?_,?_,az b2 ho,[],?_,?_⟩ k5 hs ?_ ?_
 ·rcases z with rfl|rfl|rfl|rfl
  ·exact⟨_,ah⟩
  ·exact⟨_,by rw[aG WZ];exact au hp _ _ _ b4⟩
  ·exact⟨_,by rw[aG EI];exact au hp _ _ _ c4⟩
  ·exact⟨_,by rw[aG npx];exact ah⟩
 ·rw[aG WZ];exact au hp _ _ _ b4
 ·rw[aG EI];exact au hp _ _ _ c4
 ·rw[aG npx];exact ah
 ·exact⟨λh v e=>(by cases e),λh e=>rfl,λh g v e=>(by cases e),fT _⟩
 ·exact aU a1 (iL k2 EI ho)
 ·exact aU a1 (iL k2 npx (aU a3 (iL k4 npx hp)))
theorem jK:‹(1,43,["self"],(SH CW))›:=λD=>by
 specialize fH D.LP.F F8;let⟨x,d,s,o,p,aL,rfl,hx,hs,k⟩:=h;exists _,(ay (aN (ef D.T.dP (dH (pv 0) rfl))));exists Y,x,CW,d,_,↥s,rfl,hx,D.jc.cl,D.ug,rfl,s,Y,.inl (bC.of hs);rw[Ks];exact k
theorem DK:‹(2,44,["self","hand","text"],(Xc CW))›:=λD=>by
 specialize fH D.Z5.F qY;let⟨S,x,d,s,o,p,n,aL,h,cs,rfl,W,len,nn,k⟩:=h;have hu:=gF hr;exists _,(ao (aW (i:=3) qY.nd (fQ (pv 0) D.jc D.LP (jK D) hr cj)) (ao (we (pv 0) (eT (A3 rfl) rfl D.T.i6 sf (aa (pv 2) aj)) Il) (ao (we (pv 0) (bJ NB (bO (aa (pv 1) aj)) (cu uV rfl D.T.dP PySem.boot_len (aa (pv 2) aj))) Il) (ao (aW (i:=4) qY.nd (eL (aa (pv 3) (aa (fQ (pv 0) D.jc D.LP (jK D) hr cj) aj)))) (ao (aV (dI qm jQ jR bT (Om (dH (pv 0) rfl) (pv 1) (bO aj) ⟨V,V⟩) (aa (pv 4) aj))) (ay (aN (pv 4))))))));exists Y,x,d,Y,W.hx,rfl,x,d,s,o,p,aL,rfl,W.hx,W.hs;let⟨sx,ss,so,sp,al,hx,hs,ho,ne,kvs,hp,pw⟩:=id W;have nxs:x≠s:=cY hx hs;have nxo:x≠o:=cY hx ho;have nxp:x≠p:=cY hx hp;have nps:p≠s:=cY hp hs;have npo:p≠o:=cY hp ho;refine⟨Y,x,CW,d,_,↥s,rfl,hx,D.jc.cl,D.ug,rfl,Y,cs,rfl,gQ (aQ ∅),λt ht=>?_⟩;have a1:aJ H (aM H t (.lst (cs.map yU))):=au ht _;have b1:(aM H t (.lst (cs.map yU))) t=⇑(.lst (cs.map yU)):=ah;generalize aM H t (.lst (cs.map yU))=H1 at a1 b1;refine⟨s,t,Z,a1 _ _ hs,b1,(by rw[Ks,cy];exact gQ (aQ ∅)),?_⟩;rw[← SA aL h cs];have k2:cL s H1 (aM H1 s (.lst (Pb (aL++pS h cs)))):=aK s _ _;have s2:(aM H1 s (.lst (Pb (aL++pS h cs)))) s=⇑(.lst (Pb (aL++pS h cs))):=ah;generalize aM H1 s (.lst (Pb (aL++pS h cs)))=H2 at k2 s2;have k02:cL s H H2:=λa ob e m=>k2 _ _ (a1 _ _ e) m;have x2:=k02 _ _ hx nxs;refine⟨d,_,x2,(by show 3<1000;decide),?_⟩;have e3:aM H2 x (.ins CW d (L2.dR "signs" ↥s ([("signs",↥s),("owners",↥o),("pourings",↥p)]:List (Str × V))))=H2:=Pc x2;rw[e3];refine⟨Y,x,CW,d,_,↥o,rfl,x2,D.jc.cl,D.uX,rfl,Y,jY,λt2 Ih=>?_⟩;have a3:aJ H2 (aM H2 t2 (.lst [.int h])):=au Ih _;have b3:(aM H2 t2 (.lst [.int h])) t2=⇑(.lst [.int h]):=ah;generalize aM H2 t2 (.lst [.int h])=H3 at a3 b3;refine⟨Y,fk cs,rfl,(by rw[pN];exact gQ (aQ ∅)),?_⟩;rw[pN];refine⟨t2,Z,b3,Q,Q,(by simp only[qy];exact gQ (aQ ∅)),λt3 ht3=>?_⟩;rw[Int.toNat_natCast];have a4:aJ H3 (aM H3 t3 (.lst (List.replicate ↑cs [V.int h]).flatten)):=au ht3 _;have b4:(aM H3 t3 (.lst (List.replicate ↑cs [V.int h]).flatten)) t3=⇑(.lst (List.replicate ↑cs [V.int h]).flatten):=ah;generalize aM H3 t3 (.lst (List.replicate ↑cs [V.int h]).flatten)=H4 at a4 b4;have Ux:cL s H H4:=λa ob e m=>a4 _ _ (a3 _ _ (k02 _ _ e m));refine⟨o,t3,Z,Ux _ _ ho ne.symm,b4,(by rw[SE,DJ,yl];exact gQ (aQ ∅)),?_⟩;rw[← SD aL h cs];have k5:cL o H4 (aM H4 o (.lst (JG (aL++pS h cs)))):=aK o _ _;have o5:(aM H4 o (.lst (JG (aL++pS h cs)))) o=⇑(.lst (JG (aL++pS h cs))):=ah;generalize aM H4 o (.lst (JG (aL++pS h cs)))=H5 at k5 o5;have k05:∀ a ob,H a=⇑ob->a≠s->a≠o->H5 a=⇑ob:=λa ob e m m2=>k5 _ _ (Ux _ _ e m) m2;have x5:=k05 _ _ hx nxs nxo;have s5:=k5 _ _ (a4 _ _ (a3 _ _ s2)) ne;refine⟨d,_,x5,(by show 3<1000;decide),?_⟩;have e5:aM H5 x (.ins CW d (L2.dR "owners" ↥o ([("signs",↥s),("owners",↥o),("pourings",↥p)]:List (Str × V))))=H5:=Pc x5;rw[e5]
 have YN:∀ q,H5 q=none->H q=none:=λq hq=>by
  cases e:H q with
  | none=>rfl
  | some ob =>
   by_cases z1:q=s
   ·rw[z1,s5]at hq;cases hq
   by_cases z2:q=o
   ·rw[z2,o5]at hq;cases hq
   rw[k05 _ _ e z1 z2]at hq;cases hq
 exists Y,Y,x,d,Y,x5,rfl,x,d,s,o,p,Y,x5,s5;refine⟨qU,λq hq=>?_⟩;have a6:aJ H5 (aM H5 q (.tup [.int (↑aL:Nat),.int (↑(aL++pS h cs):Nat)])):=au hq _;have b6:(aM H5 q (.tup [.int (↑aL:Nat),.int (↑(aL++pS h cs):Nat)])) q=⇑(.tup [.int (↑aL:Nat),.int (↑(aL++pS h cs):Nat)]):=ah;generalize aM H5 q (.tup [.int (↑aL:Nat),.int (↑(aL++pS h cs):Nat)])=H6 at a6 b6;have p6:=a6 _ _ (k05 _ _ hp nps npo);have JV:∀ q,H6 q=none->H q=none:=λq hq=>YN q (aU a6 hq);refine⟨Y,x,CW,d,_,↥p,rfl,a6 _ _ x5,D.jc.cl,D.nU,rfl,p,rfl,.inl ⟨_,.inl p6⟩,Y,iZ,λz hz=>?_⟩;have a7:aJ H6 (aM H6 z (.lst [])):=au hz _;have b7:(aM H6 z (.lst [])) z=⇑(.lst []):=ah;generalize aM H6 z (.lst [])=H7 at a7 b7;have lp:=pw.len;refine⟨kvs,Sum.inl h,a7 _ _ p6,rfl,aQ ∅,λv hv=>?_,λhv=>?_⟩
 ·let⟨l,row,rfl,Sl,ls,lo,⟨as,hl,pa⟩,ok,sp1,rl⟩:=pw.got h v hv;have k07:∀ a ob,H a=⇑ob->a≠s->a≠o->H7 a=⇑ob:=λa ob e m m2=>a7 _ _ (a6 _ _ (k05 _ _ e m m2));have l7:=k07 _ _ hl ls lo;have nxl:x≠l:=cY hx hl;have npl:p≠l:=cY hp hl;have la:=pa.len;refine⟨.inl ⟨rfl,_,bC.of l7⟩,Y,l,Z,l7,(by rw[cy];exact aQ ∅),?_⟩;have k8:cL l H7 (aM H7 l (.lst (as.map V.ref++[↥q]))):=aK l _ _;have l8:(aM H7 l (.lst (as.map V.ref++[↥q]))) l=⇑(.lst (as.map V.ref++[↥q])):=ah;generalize aM H7 l (.lst (as.map V.ref++[↥q]))=H8 at k8 l8;have t07:∀ a xs,H a=⇑(.tup xs)->H7 a=⇑(.tup xs):=λa xs e=>k07 _ _ e (cY e hs) (cY e ho);have Xd:∀ a xs,H7 a=⇑(.tup xs)->H8 a=⇑(.tup xs):=λa xs e=>k8 _ _ e (cY e l7);have s8:=k8 _ _ (a7 _ _ (a6 _ _ s5)) ls.symm;have o8:=k8 _ _ (a7 _ _ (a6 _ _ o5)) lo.symm;refine⟨Y,k S q H8 ⟨sx,ss,so,sp,λa z=>?_,k8 _ _ (a7 _ _ (a6 _ _ x5)) nxl,s8,o8,ne,kvs,k8 _ _ (a7 _ _ p6) npl,λg v e=>?_,λg e=>?_,pw.one,Q⟩ (Xd _ _ (a7 _ _ b6)) (λa z=>.inl z) (λa ob e m=>?_) (λa xs e=>Xd _ _ (t07 _ _ e))⟩
  ·by_cases z1:a=s
   ·rw[z1];exact⟨_,s8⟩
   by_cases z2:a=o
   ·rw[z2];exact⟨_,o8⟩
   by_cases z3:a=l
   ·rw[z3];exact⟨_,l8⟩
   let⟨ob,e⟩:=al a z;exact⟨ob,k8 _ _ (k07 _ _ e z1 z2) z3⟩
  ·by_cases c:g=h
   ·subst c;rw[hv]at e;cases e;exists l,row++([(((↑aL:Nat):Int),((↑(aL++pS g cs):Nat):Int))]:Row),rfl,Sl,ls,lo,⟨as++[q],by rw[gU];exact l8,?_⟩,?_,?_
    ·exact bN.append (pa.tups λa xs e=>Xd _ _ (t07 _ _ e)) (.cons (b:=(((↑aL:Nat):Int),((↑(aL++pS g cs):Nat):Int))) (Xd _ _ (a7 _ _ b6)) .nil)
    ·intro r hr;rcases List.mem_append.mp hr with z|z
     ·exact ok r z
     ·rw[List.mem_singleton.mp z];show ((↑aL:Nat):Int)<=(↑(aL++pS g cs):Nat);rw[cX];lia
    ·rw[cQ,sp1,mG,xx,Nat.zero_add];congr 1;refine Ak _ _ _ ?_;rw[cX,rX];lia
    ·rw[cX];simp only[qy];lia
   ·let⟨l',SI,e1,e2,e3,e4,e5,e6,e7,e8⟩:=pw.got g v e;subst e1;have nl:l'≠l:=λz=>c (pw.one g h _ e (by rw[z];exact hv));refine⟨l',SI,rfl,e2,e3,e4,e5.two (λxs q=>k8 _ _ (k07 _ _ q e3 e4) nl) (λa xs e=>Xd _ _ (t07 _ _ e)),e6,?_,Q⟩;rw[e7,mG,mH (λz=>c z.symm),ic]
  ·have c:g≠h:=λz=>by rw[z,hv]at e;cases e
   rw[mG,pw.fV g e,mH (λz=>c z.symm),ic]
  ·have z1:a≠s:=λz=>m (by rw[z];exact ss);have z2:a≠o:=λz=>m (by rw[z];exact so);have z3:a≠l:=λz=>m (by rw[z];exact Sl);exact k8 _ _ (k07 _ _ e z1 z2) z3
 ·have fz:H z=none:=JV z hz;have p7:=a7 _ _ p6;have k8:cL p H7 (aM H7 p (.dK (eE kvs (Sum.inl h) ↥z))):=aK p _ _;have p8:(aM H7 p (.dK (eE kvs (Sum.inl h) ↥z))) p=⇑(.dK (eE kvs (Sum.inl h) ↥z)):=ah;generalize aM H7 p (.dK (eE kvs (Sum.inl h) ↥z))=H8 at k8 p8;have z8:=k8 _ _ b7 (cY b7 p7);refine⟨.inl ⟨rfl,_,bC.of z8⟩,Y,z,Z,z8,(by show 0<sizeLine;decide),?_⟩;have k9:cL z H8 (aM H8 z (.lst ([]++[↥q]))):=aK z _ _;have z9:(aM H8 z (.lst ([]++[↥q]))) z=⇑(.lst ([]++[↥q])):=ah;generalize aM H8 z (.lst ([]++[↥q]))=H9 at k9 z9;have k69:∀ a ob,H6 a=⇑ob->a≠p->H9 a=⇑ob:=λa ob e m=>k9 _ _ (k8 _ _ (a7 _ _ e) m) (az e hz);have Xe:∀ a ob,H a=⇑ob->a≠s->a≠o->a≠p->H9 a=⇑ob:=λa ob e m m2 m3=>k69 _ _ (a6 _ _ (k05 _ _ e m m2)) m3;have t69:∀ a xs,H6 a=⇑(.tup xs)->H9 a=⇑(.tup xs):=λa xs e=>k69 _ _ e (cY e p6);have t09:∀ a xs,H a=⇑(.tup xs)->H9 a=⇑(.tup xs):=λa xs e=>Xe _ _ e (cY e hs) (cY e ho) (cY e hp);have s9:=k69 _ _ (a6 _ _ s5) nps.symm;have o9:=k69 _ _ (a6 _ _ o5) npo.symm;have p9:=k9 _ _ p8 (cY p7 b7)
  have nz:∀ a,S a->a≠z:=λa sa=>by
   let⟨ob,e⟩:=al a sa;exact az e fz
  refine⟨Y,k (λa=>S a\/a=z) q H9 ⟨.inl sx,.inl ss,.inl so,.inl sp,λa w=>?_,k69 _ _ (a6 _ _ x5) nxp,s9,o9,ne,_,p9,λg v e=>?_,λg e=>?_,λg g' v e e'=>?_,(by have:=iu kvs (Sum.inl h:eY) (V.ref z);lia)⟩ (t69 _ _ b6) (λa w=>w.imp id λy=>by rw[y];exact fz) (λa ob e m=>?_) (λa xs e=>t09 _ _ e)⟩
  ·rcases w with w|w
   ·by_cases z1:a=s
    ·rw[z1];exact⟨_,s9⟩
    by_cases z2:a=o
    ·rw[z2];exact⟨_,o9⟩
    by_cases z3:a=p
    ·rw[z3];exact⟨_,p9⟩
    let⟨ob,e⟩:=al a w;exact⟨ob,Xe _ _ e z1 z2 z3⟩
   ·rw[w];exact⟨_,z9⟩
  ·rw[j9]at e;by_cases c:g=h
   ·subst c;rw[if_pos rfl]at e;cases e;exists z,([(((↑aL:Nat):Int),((↑(aL++pS g cs):Nat):Int))]:Row),rfl,.inr rfl,(nz _ ss).symm,(nz _ so).symm,⟨[q],z9,.cons (t69 _ _ b6) .nil⟩,?_,?_
    ·intro r hr;rw[List.mem_singleton.mp hr];show ((↑aL:Nat):Int)<=(↑(aL++pS g cs):Nat);rw[cX];lia
    ·rw[mG,pw.fV g hv,xx,Nat.zero_add,List.nil_append];refine Ak _ _ _ ?_;rw[cX,rX];lia
    ·simp only[qy];lia
   ·rw[if_neg (λz=>c (Sum.inl.inj z))]at e;let⟨l',SI,e1,e2,e3,e4,e5,e6,e7,e8⟩:=pw.got g v e;subst e1;refine⟨l',SI,rfl,.inl e2,e3,e4,e5.two (λxs q=>Xe _ _ q e3 e4 (cY q hp)) (λa xs e=>t09 _ _ e),e6,?_,Q⟩;rw[e7,mG,mH (λz=>c z.symm),ic]
  ·rw[j9]at e;have c:g≠h:=λz=>by rw[z,if_pos rfl]at e;cases e
   rw[if_neg (λz=>c (Sum.inl.inj z))]at e;rw[mG,pw.fV g e,mH (λz=>c z.symm),ic]
  ·have other:∀ g v,g≠h->cC kvs (Sum.inl g)=⇑v->v≠.ref z:=λg v c e y=>by
    let⟨l',SI,e1,e2,_⟩:=pw.got g v e;rw[e1]at y;cases y;exact nz _ e2 rfl
   rw[j9]at e e';by_cases c:g=h
   ·by_cases c':g'=h
    ·rw[c,c']
    ·rw[c,if_pos rfl]at e;rw[if_neg (λz=>c' (Sum.inl.inj z))]at e';cases e;exact absurd rfl (other _ _ c' e')
   ·rw[if_neg (λz=>c (Sum.inl.inj z))]at e;by_cases c':g'=h
    ·rw[c',if_pos rfl]at e';cases e';exact absurd rfl (other _ _ c e)
    ·rw[if_neg (λz=>c' (Sum.inl.inj z))]at e';exact pw.one _ _ _ e e'
  ·have z1:a≠s:=λz=>m (by rw[z];exact ss);have z2:a≠o:=λz=>m (by rw[z];exact so);have z3:a≠p:=λz=>m (by rw[z];exact sp);exact Xe _ _ e z1 z2 z3
def Pd(xs:List V){p q:Int}(h:0<=p)(g:0<=q):jN xs (⇑p) (⇑q)=(xs.take q.toNat).drop p.toNat:=by
 unfold jN
 have e:∀ r:Int,0<=r->∀ d,HT.i7 ↑xs d (⇑r)=min r.toNat ↑xs:=λr hr d=>by
  show (if r<0 then (r+(↑xs:Int)).toNat else min r.toNat ↑xs)=_;rw[if_neg ∅]
 rw[e p h,e q g,List.drop_take];rcases Nat.le_total p.toNat ↑xs with z|z
 ·rw[Nat.min_eq_left z];rcases Nat.le_total q.toNat ↑xs with y|y
  ·rw[Nat.min_eq_left y]
  ·rw[Nat.min_eq_right y,tK (by rw[List.length_drop];lia),tK (by rw[List.length_drop];lia)]
 ·rw[Nat.min_eq_right z,List.drop_of_length_le (fT _),List.drop_of_length_le z];simp
def Qs(n:Nat)(p:Int × Int):Bool:=decide (0<=p.1)&&decide (p.1<p.2)&&decide (p.2<=(n:Int))
def uF(n:Nat)(row:Row):Bool:=row.all (Qs n)
class inductive SJ(C:Addr)
 | mk (S:Addr->Prop) (x d s o p r:Addr) (n:Nat) (aL:iF) (row:Row) (_:vs=[↥x,↥r]) (_:We C S H x d s o p n aL) (_:cB H r row) (_:↑row<=1000) (_: ∀ H',aJ H H'->Q (.bl (uF ↑aL row)) H')
theorem DL:aH ["self","row"] ["self","row"] (aB mU):=fc
theorem Bb:‹(2,45,["self","row"],(SJ CW))›:=λD=>by
 specialize fH D.Z6.F DL;let⟨S,x,d,s,o,p,r,n,aL,row,rfl,W,R,len,k⟩:=h;refine⟨_,(ay (aN (cu (LG rfl) rfl D.T.ZO PyProof.Rows.boot_all (aa (gI (N:=["start","stop","self"]) (mq (sc:=aB mU) (NX:=["self","row"]) (jx:=[none,none,some 0]) rfl rfl rfl nofun nofun rfl nofun rfl nofun) rfl (cz (pv 1)) (λ_ _ _ _ _ _=>(ve (n:=2) rfl (b9 (bW (i:=0) (show List.Nodup (["start","stop","self"]:List Str) by decide +kernel)) (b9 (bW (i:=1) (show List.Nodup (["start","stop","self"]:List Str) by decide +kernel)) iI)))) (λ_ _ _ _ _ _=>gX) (λ_ _ _ _ _ _=>(LH gy mS gy aC (pv 0) (pv 1) (fQ (pv 2) D.jc D.LP (jK D) hr cj)))) aj)))),?_⟩;let⟨as,hr1,pa⟩:=id R;have la:=pa.len;refine⟨Y,r,rfl,⟨_,bC.of hr1⟩,λacc cK=>gD (K:=K) (a:=r) (xs:=as.map V.ref) (λi σ H1=>∃ u w:Option V,σ=[u,w,⇑↥x]/\H1 acc=⇑(.lst (((row.take i).map (Qs ↑aL)).map V.bl))/\aJ H H1) ⟨none,none,rfl,ah,au cK _⟩ (by rintro i σ H1 _ ⟨_,_,_,_,s⟩;exact bC.of (s _ _ hr1)) ?_ ?_⟩
 ·rintro i y σ H1 hi ⟨u,w,rfl,ha,s1⟩;rw[gf]at hi;let⟨t,et,rfl⟩:=Option.map_eq_some_iff.mp hi;let⟨q,eq,ht⟩:=ur pa et;have W1:=W.same s1;exists t,Y,gV.of (s1 _ _ ht),rfl,P,rfl,Z
  have nO:∀ v:Bool,Qs ↑aL q=v->∃ ys,H1 acc=⇑(.lst ys)/\↑ys<sizeLine/\∃ u w:Option V,[⇑(V.int q.1),⇑(V.int q.2),⇑↥x]=[u,w,⇑↥x]/\(aM H1 acc (.lst (ys++[.bl v]))) acc=⇑(.lst (((row.take (i+1)).map (Qs ↑aL)).map V.bl))/\aJ H (aM H1 acc (.lst (ys++[.bl v]))):=λv hv=>by
   exists _,ha,?_,P,rfl,?_
   ·rw[cy,cy,gO];exact aQ ∅
   ·rw[ah,take_snoc eq,gU,gU,← hv];rfl
   ·intro b ob e;rw[aG (az e cK)];exact s1 _ _ e
  refine⟨Y,Z,Y,cT (λc1=>?_) (λc1=>nO false ?_)⟩
  ·refine⟨Y,Z,Y,cT (λc2=>?_) (λc2=>nO false ?_)⟩
   ·refine⟨Y,x,d,Y,W1.hx,rfl,x,d,s,o,p,aL,rfl,W1.hx,W1.hs,Z,nO _ ?_⟩;unfold Qs;rw[c1,c2];rfl
   ·unfold Qs;rw[c1,Bool.eq_false_iff.mpr c2];rfl
  ·unfold Qs;rw[Bool.eq_false_iff.mpr c1];rfl
 ·rintro σ H1 ⟨u,w,rfl,ha,s1⟩;rw[cy,la,gP]at ha;exists acc,Y,bC.of ha
  have e:(row.map (Qs ↑aL)).all id=uF ↑aL row:=by
   unfold uF;rw[List.all_map];rfl
  rw[e];exact k H1 s1
def Pe(m:mg "Ring"=⇑↥XG)(mI:mg "InkError"=⇑↥ci)(b:NI K XG=true)(r:gh.exR K XG fa=true)(i1:PySem.W.specialIn K ↥ci "__getattribute__"=⇑(⇑(.builtin "type.__getattribute__")))(i2:PySem.W.readsIn K ci (.type "type")=true)(i3:PySem.W.findCls K ↥ci (.type "type") "__init__"=⇑(.val (.builtin "ValueError.__init__")))(h:PySem.W.exmOne K ↥XG ↥XG=⇑true)(n:PySem.W.exmOne K ↥XH ↥XG=⇑false):Kf K mg XG ci fa XH:=by
 unfold NI gh.kB at b;unfold gh.exR at r;simp only[Bool.and_eq_true,beq_iff_eq]at b r;let⟨⟨⟨⟨⟨⟨b1,b2⟩,b3⟩,b4⟩,b5⟩,b6⟩,b7⟩:=b;let⟨⟨⟨r1,r2⟩,r3⟩,r4⟩:=r;exact⟨m,mI,b1,⟨b2,b3,b4,b5,b6,b7⟩,r1,r2,r3,r4,i1,i2,i3,h,n⟩
class inductive SK(XG:Addr)
 | mk (a p:Addr) (xs:List V) (_:vs=[↥a,↥p]) (_:H a=⇑(gh.Dn XG a)) (_:H p=⇑(.lst xs)) (_:↑xs<=sizeLine) (_:∀ (m dx:Addr) (H':Hp),H m=none->H dx=none->m≠dx->H' a=⇑(gh.Iq XG a dx)->H' dx=⇑(.xd [("way",↥m)])->H' m=⇑(.lst xs)->cL a H H'->Q .fV H')
theorem yC:aH ["self","way"] ["self","way"] (aB jE):=fc
theorem xA:‹(1,46,["self","way"],(SK XG))›:=λD=>by
 specialize fH D.Z7.F yC;let⟨a,p,xs,rfl,ha,hp,hz,k⟩:=h;exists _,(ao (aV (gh.OA (pl:=_) PySem.F.excBase_ValueError D.jr.mI D.jr.i1 D.jr.i2 D.jr.i3 (aa (pv 0) (aa bP aj)))) (ay (gh.Wb (pv 0) (eT fY rfl D.T.i6 sf (aa (pv 1) aj)) rfl)));have nap:p≠a:=λe=>by rw[e,ha]at hp;cases hp
 exists Y,a,K,rfl,jY,ha,D.jr.x2;refine⟨Y,p,Y,.inl (bC.of ((aG nap).trans hp)),λm hm=>?_⟩;have nma:a≠m:=az ah hm;have hm0:H m=none:=(aG nma.symm).symm.trans hm;refine⟨Y,a,Y,(aG nma).trans ah,D.jr.e.b,D.jr.wy,D.jr.sa,λdx Ye=>?_⟩;have nmd:m≠dx:=az ah Ye;have nad:a≠dx:=az ((aG nma).trans ah) Ye;have abf:H dx=none:=((aG nad.symm).symm.trans (aG nmd.symm).symm).trans Ye;refine k m dx _ hm0 abf nmd ah ((aG nad.symm).trans ah) ?_ λb o e n=>?_
 ·rw[aG nma.symm,aG nmd,ah]
 ·rw[aG n,aG (az e abf),aG (az e hm0),aG n];exact e
inductive WvX(K:PySem.W.Frag)(mg:Str->Option Value)(XH XG:Addr):Prop
 | mk (z:VW K mg "TooHeavy" XH) (ci fR:Addr) (gR:FuncData) (R:Kf K mg XG ci fR XH) (d:cW K XG "__init__" "Ring.__init__" jE ["self","way"] fR gR)
def sW.irr{af:cD}(h:sW af){s:Int}:¬ Reach (jf af) s s:=by
 let⟨rk,_,hr⟩:=h
 have key:∀ g,Reach (jf af) s g->rk g<rk s:=by
  intro g r
  induction r with
  | one e=>exact hr _ _ e
  | step _ e ih=>exact Nat.lt_trans (hr _ _ e) ih
 exact λz=>Nat.lt_irrefl _ (key s z)
def sW.walk{af:cD}(h:sW af){s:Int}{ja:List Int}(w:Walk (jf af) s ja)(l:2<=↑ja)(e:ja.getLast?=⇑s):False:=by
 rw[List.getLast?_eq_getElem?]at e;exact h.irr (w.reach (↑ja-2) s (by rw[show ↑ja-2+1=↑ja-1 by lia];exact e))
structure qZ(af:cD)(f:Int->Int):Prop where
 len:↑af<=100
 es:∀ es∈af,↑es<=1000
 sd:fJ af
 rk:sW af
 wt:Weighs af f
 most:∀ x:Int,0<=x->x<↑af->f x<=200
structure Wv(af:cD)(f:Int->Int):Prop where
 len:↑af<=100
 es:∀ es∈af,↑es<=1000
 sd:fJ af
 rk:sW af
 wt:Weighs af f
 big:∀ x:Int,0<=x->x<↑af->f x<=1000000
structure Wv0(af:cD):Prop where
 len:↑af<=100
 es:∀ es∈af,↑es<=1000
 sd:fJ af
def Pf(af:cD)(f:Int->Int):Prop:=∀ x:Int,0<=x->x<↑af->f x<=200
def Pg(af:cD)(f:Int->Int):Prop:=∃ x:Int,0<=x/\x<↑af/\200<f x
theorem qZ.wv{af:cD}{f:Int->Int}(B:qZ af f):Wv af f:=⟨B.len,B.es,B.sd,B.rk,B.wt,λx h0 h1=>by have:=B.most x h0 h1;lia⟩
def vG(XH XG:Addr)(af:cD)(s:Int)(H:Hp)(E:XK)(done:Prop):Prop :=
 Wv0 af/\(∀ (ja:List Int) (m dx:Addr) (H':Hp),Walk (jf af) s ja->2<=↑ja->↑ja<=2000->ja.getLast?=⇑s->H' dx=⇑(.xd [("way",↥m)])->H' m=⇑(.lst (ja.map V.int))->aJ H H'->E ↥XG (⇑dx) H')/\(¬ Reach (jf af) s s->∃ f,Wv af f/\(Pf af f->done)/\(Pg af f->∀ H',aJ H H'->E ↥XH none H'))
def vG.imp{af:cD}{s:Int}{H H1:Hp}{E:XK}{A B:Prop}(h:vG XH XG af s H E A)(sm:aJ H H1)(g:A->B):vG XH XG af s H1 E B:=by
 let⟨h1,h2,h3⟩:=h;refine⟨h1,λja m dx H' a b c d e f sm'=>h2 ja m dx H' a b c d e f (sm.trans sm'),λn=>?_⟩;let⟨f,w,l,v⟩:=h3 n;exact⟨f,w,λz=>g (l z),λz H' sm'=>v z H' (sm.trans sm')⟩
theorem qZ.Ph{af:cD}{f:Int->Int}{s:Int}{H:Hp}{E:XK}{A:Prop}(B:qZ af f)(g:A):vG XH XG af s H E A :=
 ⟨⟨B.len,B.es,B.sd⟩,λja m dx H' wk l2 _ eg=>(B.rk.walk wk l2 eg).elim,λ_=>⟨f,B.wv,λ_=>g,λ⟨y,y0,y1,y2⟩=>by have:=B.most y y0 y1;lia⟩⟩
class inductive Mu(XH XG:Addr)
 | mk (r:Addr) (af:cD) (s:Int) (_:vs=[↥r,.int s]) (_:gr H r (af.map aO)) (_:0<=s) (_:s<↑af) (_:vG XH XG af s H E (∀ H',aJ H H'->Q .fV H'))
theorem j6:aH ["rows","sheet","way","weights","number"] ["rows","sheet"] (aB oW):=fc
def Al(D:Ds K mg aX aZ C CS CW CB CT CD aA XG ci):aY P w K mg zt (Es P w) 4 (aX 47) (aZ 47) ["rows","sheet"] (Mu aA XG):=by
 refine ZK D.Z8.F j6 λcJ A zn s0 H vs Q E hr h=>?_;let⟨r,af,s,rfl,hR,h0,h1,B0,kr,kn⟩:=h;have hu:=gF hr;let⟨DM,DN⟩:=D.G.w;have bl:=B0.len;refine⟨_,(ao (aW (i:=2) j6.nd (aI D.ZQ (Sj D) hr (aa (pv 0) (aa (pv 1) aj)))) (ao (bS (zf (Jx (pv 2))) (ay (gh.LN PySem.F.excBase_ValueError rfl gh.RU (gh.Oz PySem.F.excBase_ValueError D.jr.x2 D.jr.tf D.jr.m D.jr.kp (xA D) (hr.mono (by decide)) D.Z7.b .nil cj (aa (pv 2) aj)))) bG) (ao (aW (i:=3) j6.nd (aI D.Wk (nZ D) hr (aa (pv 0) (aa (eT (sS rfl) rfl D.T.i6 sf (aa (eT Dh rfl D.T.iN PyProof.Rows.boot_range (aa (ef D.T.dP (pv 0)) aj)) aj)) aj)))) (ay (dN PassesOwn.leaving rfl (gK rfl D.T.iN (aa (ef D.T.dP (pv 0)) aj)) (bW (i:=4) j6.nd) (ay (bS (br BF (gJ hu (pv 3) (pv 4)) (CL (v:=.int 200) rfl DN ⟨DM,rfl⟩) (bx _)) (ay (N5 PySem.F.excBase_ValueError D.lI.x D.lI.m rfl VG (aa (Rk (N6 (N7 (pv 4) (N6 (N7 (gJ hu (pv 3) (pv 4)) VJ))))) aj))) bG))))))),?_⟩;refine⟨Y,Y,r,s,rfl,r,af,s,s,rfl,hR,Q,B0.es,B0.sd,h0,h1,λja o H1 ho s1 wk l2 l20 eg=>?_,λnr H1 s1=>?_⟩
 ·refine⟨Y,true,rfl,ji ⟨Y,jY,λa ha=>?_⟩⟩;have na:o≠a:=az ho ha;refine⟨a,o,Y,ah,(aG na).trans ho,by rw[cy];exact gQ (aQ ∅),λm dx H2 hm Ye nmd e1 e2 e3 k2=>⟨rfl,a,XG,dx,Y,?_,e1,D.jr.x2,?_⟩⟩
  ·exact aU s1 ha
  have s2:aJ H1 H2:=λb u e=>k2 b u ((aG (az e ha)).trans e) (az e ha)
  have s02:aJ H (gh.Qn H2 a):=λb u e=>by
   rw[gh.wU (az (s1 _ _ e) ha)];exact s2 _ _ (s1 _ _ e)
  refine kr ja m dx _ wk l2 l20 eg ?_ ?_ s02
  ·rw[gh.wU λz=>by rw[z,ah]at Ye;cases Ye];exact e2
  ·rw[gh.wU λz=>by rw[z,ah]at hm;cases hm];exact e3
 let⟨f,B,k,kh⟩:=kn nr;refine⟨Y,false,rfl,dM ?_⟩;have hR1:=hR.same s1;let⟨vs,hr1,al⟩:=id hR1;have lv:↑vs=↑af:=by rw[al.len,cy]
 refine⟨Y,Y,r,Y,.inl (bC.of hr1),Y,λp1 Yd=>⟨p1,P,rfl,ah,⟨Q,Q,Q,Q⟩,gQ (aQ ∅),λL hL=>?_⟩⟩;rw[zD,lv,show ((↑af:Int)-0).toNat=↑af by lia];rw[lv]at hL;have s2:=s1.trans ((au Yd (.AV 0 ((↑af:Nat):Int))).trans (au hL (.lst ((run 0 ↑af).map V.int))));have hL2:(aM (aM H1 p1 (.AV 0 ((↑af:Nat):Int))) L (.lst ((run 0 ↑af).map V.int))) L=⇑(.lst ((run 0 ↑af).map V.int)):=ah;generalize aM (aM H1 p1 (.AV 0 ((↑af:Nat):Int))) L (.lst ((run 0 ↑af).map V.int))=H2 at s2 hL2;refine⟨r,L,af,run 0 ↑af,f,rfl,hR.same s2,hL2,by rw[J4];lia,Q,B.es,B.sd,B.rk,(λx hx=>by have:=Oj hx;lia),B.wt,λS kvs H3 hS hv s3 _=>?_⟩;have O8:=s2.trans s3;let⟨vs3,G5,al3⟩:=hR.same O8;have lv3:↑vs3=↑af:=by rw[al3.len,cy]
 exists Y,r,Y,.inl (bC.of G5),Y,Q,Q;refine jS (lo:=0) (n:=((↑vs3:Nat):Int).toNat) (λi σ H4=>∃ u:Option V,σ=[⇑↥r,⇑(.int s),some .fV,⇑↥S,u]/\aJ H H4/\H4 S=⇑(.dK kvs)/\∀ x:Int,0<=x->x<i->f x<=200) ⟨none,rfl,O8,hS,λx z1 z2=>by lia⟩ ?_ ?_
 ·rintro i σ H4 hi ⟨u,rfl,s4,hS4,Xf⟩;have il:i<↑af:=by lia
  have z:=jw.k (k:=Sum.inl (0+(i:Int))) hS4;rw[hv (0+(i:Int)) (by rw[show (0:Int)+(i:Int)=0+i from rfl];exact oA (JZ 0 ↑af i il))]at z;have bg:=B.big (0+(i:Int)) ∅ ∅;exists Y,Y,S,Y,z,Z,Y;by_cases c:f (0+(i:Int)) > 200
  ·rw[decide_eq_true c];refine ji ?_;have fi:Ib (0+(i:Int)):=⟨Q,Q⟩;have ff:Ib (f (0+(i:Int))):=⟨Q,Q⟩;exact⟨Y,Y,fi.log,Y,Y,S,Y,z,Y,ff.log,λy=>⟨jY,kh ⟨_,Q,Q,c⟩ H4 s4⟩⟩
  ·rw[decide_eq_false c];refine dM ⟨Y,s4,hS4,λx z1 z2=>?_⟩;by_cases e:x<i
   ·exact Xf x z1 e
   ·rw[show x=0+(i:Int) by lia];lia
 ·rintro σ H4 ⟨u,rfl,s4,_,Xf⟩;exact k (λx z1 z2=>Xf x z1 ∅) H4 s4
structure fK(C CS:Addr)(S:Addr->Prop)(H:Hp)(x d wl sh bl kn du bk dS st op:Addr)(bK:kq)(ops:List Int)(aF:iH):Prop where
 hx:H x=⇑(.ins C d [("well",↥wl),("shelf",↥sh),("blots",↥bl),("knots",↥kn),("dues",↥du),("book",↥bk)])
 W:Sh CS S H sh dS st op bK ops
 hb:H bk=⇑(kU aF)
 nx:¬ S x
 nb:¬ S bk
def Fr(S S':Addr->Prop)(bk:Addr)(H H':Hp):Prop:=(∀ a,S' a->S a\/H a=none)/\(∀ a ob,H a=⇑ob->¬ S a->a≠bk->H' a=⇑ob)/\∀ a xs,H a=⇑(.tup xs)->H' a=⇑(.tup xs)
theorem Fr.same{S S':Addr->Prop}{bk:Addr}{H0 H H':Hp}(s:aJ H0 H)(f:Fr S S' bk H H'):Fr S S' bk H0 H' :=
 ⟨λa z=>(f.1 a z).imp id λy=>aU s y,λa ob e n1 n2=>f.2.1 a ob (s _ _ e) n1 n2,λa xs e=>f.2.2 a xs (s _ _ e)⟩
theorem fK.same{C:Addr}{S:Addr->Prop}{H H':Hp}{x d wl bl du bk st:Addr}{bK:kq}{ops:List Int}{aF:iH}(L:fK C CS S H x d wl sh bl kn du bk dS st op bK ops aF)(s:aJ H H'):fK C CS S H' x d wl sh bl kn du bk dS st op bK ops aF :=
 ⟨s _ _ L.hx,L.W.same s,s _ _ L.hb,L.nx,L.nb⟩
theorem fK.neb{C:Addr}{S:Addr->Prop}{H:Hp}{x d wl bl du bk st:Addr}{bK:kq}{ops:List Int}{aF:iH}(L:fK C CS S H x d wl sh bl kn du bk dS st op bK ops aF):x≠bk:=λe=>by
 have z:=L.hx;rw[e,L.hb]at z;cases z
class inductive SM(C CS:Addr)
 | mk (S:Addr->Prop) (x d wl sh bl kn du bk dS st op:Addr) (bK:kq) (ops:List Int) (aF:iH) (_:vs=[↥x]) (_:fK C CS S H x d wl sh bl kn du bk dS st op bK ops aF) (_:Q (.int (↑ops:Nat)) H)
class inductive Xg(C CS:Addr)
 | mk (S:Addr->Prop) (x d wl sh bl kn du bk dS st op:Addr) (bK:kq) (ops:List Int) (aF:iH) (_:vs=[↥x]) (_:fK C CS S H x d wl sh bl kn du bk dS st op bK ops aF) (_:Q (.int ((↑bK:Nat)-1)) H)
class inductive SN(C CS:Addr)
 | mk (S:Addr->Prop) (x d wl sh bl kn du bk dS st op:Addr) (bK:kq) (ops:List Int) (aF:iH) (dd c:Addr) (e:ko) (cs:List Addr) (qd:List (Nat × List aR)) (last:List (List aR)) (_:vs=[↥x,↥dd,↥c]) (_:fK C CS S H x d wl sh bl kn du bk dS st op bK ops aF) (_:e.At H dd) (_:e.Ok) (_:H c=⇑(.lst (cs.map V.ref))) (_:c≠bk) (_:bV (IM H) cs qd) (_:(∀ a∈cs,∀ (s:Int) (r:Addr),H a=⇑(.tup [.int s,↥r])->r≠bk)) (_:bK.getLast?=⇑last) (_:W0 last qd) (_:↑qd<=200) (_:↑last<=500) (_:↑bK<=1000) (_:↑aF<=1000) (_ :
 ∀ (S':Addr->Prop) (H':Hp),fK C CS S' H' x d wl sh bl kn du bk dS st op (bK++[pR last qd]) (ops++List.replicate (↑(pR last qd)-↑last) ((↑bK:Nat):Int)) (aF++[e.line])->Fr S S' bk H H'->Q .fV H')
theorem yD:aH ["self","deed","changes"] ["self","deed","changes"] (aB lS):=fc
theorem Am:aH ["self"] ["self"] (aB nj):=fc
theorem Bc:aH ["self"] ["self"] (aB oX):=fc
theorem qe:‹(2,51,["self"],(SM C CS))›:=λD=>by
 specialize fH D.Wx.F Am;let⟨S,x,d,wl,sh,bl,kn,du,bk,dS,st,op,bK,ops,aF,rfl,L,k⟩:=h;exists _,(ay (aN (fQ (dH (pv 0) rfl) D.cN D.Wu (sZ D) hr cj)));exact⟨Y,x,C,d,_,↥sh,rfl,L.hx,D.aS.cl,D.gC,rfl,sh,dS,Y,L.W.hx,rfl,S,sh,dS,st,op,bK,ops,rfl,L.W,k⟩
theorem An:‹(2,52,["self"],(Xg C CS))›:=λD=>by
 specialize fH D.aaa.F Bc;let⟨S,x,d,wl,sh,bl,kn,du,bk,dS,st,op,bK,ops,aF,rfl,L,k⟩:=h;let⟨as,hs,al⟩:=L.W.hs;exists _,(ay (aN (fQ (dH (pv 0) rfl) D.cN D.OC (lF D) hr cj)));exists Y,x,C,d,_,↥sh,rfl,L.hx,D.aS.cl,D.gC,rfl,sh,dS,Y,L.W.hx,rfl,sh,dS,st,op,Y,L.W.hx,hs;rw[cy,al.len];exact k
theorem oq:‹(3,49,["self","deed","changes"],(SN C CS))›:=λD=>by
 specialize fH D.Ww.F yD;let⟨S,x,d,wl,sh,bl,kn,du,bk,dS,st,op,bK,ops,aF,dd,c,e,cs,qd,last,rfl,L,de,ok,hc,ncb,al,nr,hl,oc,l1,l2,l3,l4,k⟩:=h;exists _,(ao (aV (dI qm jQ jR bT (dH (pv 0) rfl) (aa (aI D.ZW (A9 D) hr (aa (pv 1) aj)) aj))) (ay (aV (eN (dH (pv 0) rfl) D.cN D.ZY (Ba D) hr cj (aa (pv 2) aj)))));refine⟨Y,x,C,d,_,↥bk,rfl,L.hx,D.aS.cl,D.EX,rfl,.inl ⟨rfl,_,bC.of L.hb⟩,Y,dd,e,rfl,de,ok,IK ok,λH1 s1=>?_⟩;refine⟨bk,Z,s1 _ _ L.hb,aQ (by rw[cy];lia),?_⟩;have e2:(aF.map λw=>V.str (fk w))++[V.str (fk e.line)]=(aF++[e.line]).map λw=>V.str (fk w):=by rw[gU];rfl
 rw[e2]
 have k2:cL bk H (aM H1 bk (kU (aF++[e.line]))):=λa o q n=>by
  rw[aG n];exact s1 _ _ q
 have WT:(aM H1 bk (kU (aF++[e.line]))) bk=⇑(kU (aF++[e.line])):=ah
 have fr2:∀ a,(aM H1 bk (kU (aF++[e.line]))) a=none->H a=none:=λa q=>by
  by_cases z:a=bk
  ·rw[z,ah]at q;cases q
  ·rw[aG z]at q;exact aU s1 q
 generalize aM H1 bk (kU (aF++[e.line]))=H2 at k2 WT fr2;have t2:∀ a xs,H a=⇑(.tup xs)->H2 a=⇑(.tup xs):=λa xs q=>k2 _ _ q (cY q L.hb);have W2:Sh CS S H2 sh dS st op bK ops:=L.W.keep L.hb L.nb k2;have x2:=k2 _ _ L.hx L.neb;refine⟨Y,x,C,d,_,↥sh,rfl,x2,D.aS.cl,D.gC,rfl,sh,dS,Y,W2.hx,rfl,Y,S,sh,dS,st,op,c,bK,ops,cs,qd,last,rfl,W2,k2 _ _ hc ncb,?_,hl,oc,l1,l2,l3,λS' H3 W3 sub fr tp=>?_⟩
 ·have key:∀ {as:List Addr} {ds:List (Nat × List aR)},bV (IM H) as ds->(∀ a∈as,a∈cs)->bV (IM H2) as ds:=by
   intro as ds q
   induction q with
   | nil=>intro _;exact .nil
   | cons o t ih =>
    intro sub;refine .cons ?_ (ih λa ha=>sub a (oE _ ha));let⟨r,ha,it⟩:=o;have nrb:=nr _ (sub _ tL) _ r ha;exact⟨r,t2 _ _ ha,it.fr (λxs q=>k2 _ _ q nrb) t2⟩
  exact key al λ_ z=>z
 ·refine k S' H3 ⟨fr _ _ x2 L.nx,W3,fr _ _ WT L.nb,λz=>?_,λz=>?_⟩ ⟨λa z=>(sub a z).imp id λq=>fr2 a q,λa ob q n n'=>fr _ _ (k2 _ _ q n') n,λa xs q=>tp _ _ (t2 _ _ q)⟩
  ·rcases sub _ z with q|q
   ·exact L.nx q
   ·rw[x2]at q;cases q
  ·rcases sub _ z with q|q
   ·exact L.nb q
   ·rw[WT]at q;cases q
abbrev pT(pe:iG):kq:=pe.map λaf=>af.map aO
def pU(af:cD)(s:Nat)(es:List Int):cD:=af.take s++[es]++af.drop (s+1)
def SO(af:cD)(s:Nat)(es:List Int):pR (af.map aO) [(s,aO es)]=(pU af s es).map aO:=by
 show (af.map aO).take s++[aO es]++(af.map aO).drop (s+1)=_;unfold pU;rw[gU,gU,List.map_take,List.map_drop];rfl
def F9{af:cD}{s:Nat}{es:List Int}(h:s<=↑af):↑(pU af s es)=if s=↑af then ↑af+1 else ↑af:=by
 unfold pU;rw[cX,cX,gO,List.length_drop];show min s ↑af+1+_=_
 split <;> lia
def Pj(ops:List Int)(n s m:Nat):List Int:=ops++if s=n then [(m:Int)] else []
def Xh{af:cD}{s:Nat}{es:List Int}{ops:List Int}{m:Nat}(h:s<=↑af):ops++List.replicate (↑((pU af s es).map aO)-↑(af.map aO)) (m:Int)=Pj ops ↑af s m:=by
 rw[cy,cy,F9 h];unfold Pj;by_cases c:s=↑af
 ·rw[if_pos c,if_pos c,show ↑af+1-↑af=1 by lia];rfl
 ·rw[if_neg c,if_neg c,Nat.sub_self];rfl
class inductive CA(C CS XH XG:Addr)
 | mk (S:Addr->Prop) (x d wl sh bl kn du bk dS st op:Addr) (pe:iG) (ops:List Int) (aF:iH) (dd r:Addr) (e:ko) (s:Nat) (es:List Int) (af:cD)  (_:vs=[↥x,↥dd,.int (s:Nat),↥r]) (_:fK C CS S H x d wl sh bl kn du bk dS st op (pT pe) ops aF) (_:e.At H dd) (_:e.Ok) (_:bR H ↥r (aO es)) (_:r≠bk) (_:pe.getLast?=⇑af) (_:s<=↑af) (_:↑af<=50) (_:↑pe<=900) (_:↑aF<=900) (_:vG XH XG (pU af s es) (s:Nat) H E (∀ (S':Addr->Prop) (H':Hp),fK C CS S' H' x d wl sh bl kn du bk dS st op (pT (pe++[pU af s es])) (Pj ops ↑af s ↑pe) (aF++[e.line])->Fr S S' bk H H'->Q .fV H'))
theorem xC:aH ["self","deed","sheet","items"] ["self","deed","sheet","items"] (aB kK):=fc
def jt{pe:iG}{af:cD}(h:pe.getLast?=⇑af):(pT pe).getLast?=⇑(af.map aO):=by
 rw[List.getLast?_map,h];rfl
def Pk{H H':Hp}{rs:List Addr}{af:List (List aR)}{r:Addr}{aP:List aR}{s:Nat}(al:bV (λq i=>bR H' ↥q i) rs af)(it:bR H' ↥r aP):bV (bR H') ((rs.map V.ref).take s++[↥r]++(rs.map V.ref).drop (s+1)) (af.take s++[aP]++af.drop (s+1)):=by
 have key:bV (bR H') (rs.map V.ref) af:=by
  induction al with
  | nil=>exact .nil
  | cons o t ih=>exact .cons o ih
 exact ((key.take s).app (.cons it .nil)).app (key.drop (s+1))
def gY(D:Ds K mg aX aZ C CS CW CB CT CD aA XG ci):aY P w K mg zt (Es P w) 5 (aX 50) (aZ 50) ["self","deed","sheet","items"] (CA C CS aA XG):=by
 specialize ZK D.OD.F xC;let⟨S,x,d,wl,sh,bl,kn,du,bk,dS,st,op,pe,ops,aF,dd,r,e,s,es,af,rfl,L,de,ok,hi,nrb,hl,sl,l1,l2,l3,B⟩:=h;have hl':=jt hl;have lp:↑(pT pe)=↑pe:=cy _
 have lo:↑ops=↑af:=by
  let⟨last,z1,z2⟩:=L.W.Qq.Cv;rw[hl']at z1;cases z1;rw[z2,cy]
 exists _,(ao (aV (Ri D.Z8 (Al D) hr JY (aa (aI D.Ws (Ai D) hr (aa (fQ (dH (pv 0) rfl) D.cN D.Iz (gM D) hr cj) (aa (pv 2) (aa (pv 3) aj)))) (aa (pv 2) aj)))) (ay (aV (eN (pv 0) D.aS D.Ww (oq D) hr cj (aa (pv 1) (aa (bO (aa (eL (aa (pv 2) (aa (pv 3) aj))) aj)) aj))))));refine⟨Y,x,C,d,_,↥sh,rfl,L.hx,D.aS.cl,D.gC,rfl,sh,dS,Y,L.W.hx,rfl,S,sh,dS,st,op,pT pe,ops,rfl,L.W,⟨Q,Q⟩,λrws el q H1 fs s1=>?_⟩;rw[hl']at el;cases el;let⟨fq,rs,hq,al⟩:=fs;have lr:↑rs=↑af:=by rw[al.len,cy]
 have hi1:=hi.same s1;have L1:=L.same s1;refine⟨Y,Y,q,r,_,s,rfl,hq,by rw[cy,lr];exact sl,by rw[cy,lr];lia,λp2 H2 Ub s2 f2=>?_⟩
 refine⟨Y,p2,pU af s es,(s:Int),rfl,⟨_,Ub,?_⟩,Q,by rw[F9 sl];split <;> lia,B.imp (s1.trans s2) λk H3 s3=>?_⟩
 ·have z:=Pk (H:=H) (H':=H2) (s:=s) (al.mono λq' i' w'=>(w'.2.2).same s2) (hi1.same s2)
  have e':(af.map aO).take s++[aO es]++(af.map aO).drop (s+1)=(pU af s es).map aO:=by
   unfold pU;rw[gU,gU,List.map_take,List.map_drop];rfl
  rw[e']at z;exact z
 have Lx:=s1.trans (s2.trans s3);have L3:=L.same Lx;refine⟨Y,x,d,Y,L3.hx,rfl,Y,Y,Y,qU,λt ht=>⟨jY,λc hc=>?_⟩⟩;have s4:aJ H3 (aM (aM H3 t (.tup [.int (s:Nat),↥r])) c (.lst [↥t])):=(au ht _).trans (au hc _);have ht4:(aM (aM H3 t (.tup [.int (s:Nat),↥r])) c (.lst [↥t])) t=⇑(.tup [.int (s:Nat),↥r]):=au hc _ _ _ ah;have hc4:(aM (aM H3 t (.tup [.int (s:Nat),↥r])) c (.lst [↥t])) c=⇑(.lst ([t].map V.ref)):=ah
 have nc:c≠bk:=λz=>by
  have:=au ht (.tup [.int (s:Nat),↥r]) _ _ L3.hb;rw[← z,hc]at this;cases this
 generalize aM (aM H3 t (.tup [.int (s:Nat),↥r])) c (.lst [↥t])=H4 at s4 ht4 hc4;have Xi:=Lx.trans s4;refine⟨S,x,d,wl,sh,bl,kn,du,bk,dS,st,op,pT pe,ops,aF,dd,c,e,[t],[(s,aO es)],af.map aO,rfl,L.same Xi,de.same Xi,ok,hc4,nc,.cons ⟨r,ht4,hi.same Xi⟩ .nil,?_,hl',?_,(by show 1<=200;decide),by rw[cy];lia,Q,Q,λS' H' L' fr=>?_⟩
 ·intro a ha s' r' e';rw[List.mem_singleton.mp ha,ht4]at e';cases e';exact nrb
 ·intro i ch ei
  match i,ei with
  | 0,ei =>
   cases ei;show s<=↑(af.map aO);rw[cy];exact sl
  | i+1,ei=>cases ei
 ·rw[SO,Xh sl,lp]at L';refine k S' H' ?_ (fr.same Xi)
  have ep:pT (pe++[pU af s es])=pT pe++[(pU af s es).map aO]:=by
   show (pe++[pU af s es]).map _=_;rw[gU];rfl
  rw[ep];exact L'
class inductive SQ(C CS:Addr)
 | mk (S:Addr->Prop) (x d wl sh bl kn du bk dS st op:Addr) (pe:iG) (ops:List Int) (aF:iH) (dd r:Addr) (e:ko) (es:List Int) (af:cD) (_:vs=[↥x,↥dd,↥r]) (_:fK C CS S H x d wl sh bl kn du bk dS st op (pT pe) ops aF) (_:e.At H dd) (_:e.Ok) (_:bR H ↥r (aO es)) (_:r≠bk) (_:pe.getLast?=⇑af) (_:↑af<=50) (_:↑pe<=900) (_:↑aF<=900) (_:↑af<40) (_:((∃ f,qZ (af++[es]) f)/\∀ (S':Addr->Prop) (H':Hp),fK C CS S' H' x d wl sh bl kn du bk dS st op (pT (pe++[af++[es]])) (ops++[((↑pe:Nat):Int)]) (aF++[e.line])->Fr S S' bk H H'->Q (.int (↑af:Nat)) H'))
theorem qf:aH ["self","deed","items","sheet"] ["self","deed","items"] (aB lT):=fc
def Pn(af:cD)(es:List Int):pU af ↑af es=af++[es]:=by
 unfold pU;rw[gP,List.drop_of_length_le ∅,ic]
def rY{C:Addr}{S:Addr->Prop}{H:Hp}{x d wl bl du bk st:Addr}{pe:iG}{ops:List Int}{aF:iH}{af:cD}(L:fK C CS S H x d wl sh bl kn du bk dS st op (pT pe) ops aF)(hl:pe.getLast?=⇑af):↑ops=↑af:=by
 let⟨last,z1,z2⟩:=L.W.Qq.Cv;rw[jt hl]at z1;cases z1;rw[z2,cy]
theorem xD:‹(6,53,["self","deed","items"],(SQ C CS))›:=λD=>by
 let⟨DO,DP⟩:=D.G.s;specialize fH D.aab.F qf;let⟨S,x,d,wl,sh,bl,kn,du,bk,dS,st,op,pe,ops,aF,dd,r,e,es,af,rfl,L,de,ok,hi,nrb,hl,l1,l2,l3,lt,k2⟩:=h;have lo:=rY L hl;exists _,(ao (aW (i:=3) qf.nd (fQ (pv 0) D.aS D.Wx (qe D) hr cj)) (ao (bS (br Na (pv 3) (CL (v:=.int 40) rfl DP ⟨DO,rfl⟩) (bx _)) (ay lN) bG) (ao (aV (eN (pv 0) D.aS D.OD (gY D) hr Oa (aa (pv 1) (aa (pv 3) (aa (pv 2) aj))))) (ay (aN (pv 3))))));exists Y,x,d,Y,L.hx,rfl,S,x,d,wl,sh,bl,kn,du,bk,dS,st,op,pT pe,ops,aF,rfl,L;rw[lo];refine⟨Y,Z,Y,cT (λc=>?_) (λc=>?_)⟩
 ·exact absurd (of_decide_eq_true c) ∅
 ·let⟨⟨f,B⟩,k3⟩:=k2;exists Y,x,d,Y,L.hx,rfl,Y,Y,Y,S,x,d,wl,sh,bl,kn,du,bk,dS,st,op,pe,ops,aF,dd,r,e,↑af,es,af,rfl,L,de,ok,hi,nrb,hl,fT _,l1,l2,l3;rw[Pn];refine B.Ph λS' H' L' fr=>?_;have eo:Pj ops ↑af ↑af ↑pe=ops++[((↑pe:Nat):Int)]:=by unfold Pj;rw[if_pos rfl]
  rw[eo]at L';exact⟨Y,k3 S' H' L' fr⟩
abbrev frW:List Nat:=(Str.ofString "fresh").cps.toList
theorem Po:(ko.plain frW []).Ok:=⟨by decide +kernel,λ_ z=>by cases z⟩
class inductive SR(C CS:Addr)
 | mk (S:Addr->Prop) (x d wl sh bl kn du bk dS st op:Addr) (pe:iG) (ops:List Int) (aF:iH) (af:cD) (_:vs=[↥x]) (_:fK C CS S H x d wl sh bl kn du bk dS st op (pT pe) ops aF) (_:pe.getLast?=⇑af) (_:↑af<=50) (_:↑pe<=900) (_:↑aF<=900) (_:↑af<40) (_:((∃ f,qZ (af++[[]]) f)/\∀ (S':Addr->Prop) (H':Hp),fK C CS S' H' x d wl sh bl kn du bk dS st op (pT (pe++[af++[[]]])) (ops++[((↑pe:Nat):Int)]) (aF++[(ko.plain frW []).line])->Fr S S' bk H H'->Q (.int (↑af:Nat)) H'))
theorem yE:aH ["self"] ["self"] (aB lU):=fc
theorem xG:‹(7,54,["self"],(SR C CS))›:=λD=>by
 specialize fH D.aac.F yE;let⟨S,x,d,wl,sh,bl,kn,du,bk,dS,st,op,pe,ops,aF,af,rfl,L,hl,l1,l2,l3,lt,k2⟩:=h;exists _,(ay (aN (eN (pv 0) D.aS D.aab (xD D) hr cj (aa (eL (aa bP aj)) (aa (bO aj) aj)))));refine⟨Y,x,d,Y,L.hx,rfl,jY,λt ht=>⟨iZ,λr yb=>?_⟩⟩;have s1:aJ H (aM (aM H t (.tup [.str "fresh"])) r (.lst [])):=(au ht _).trans (au yb _);have ht1:(aM (aM H t (.tup [.str "fresh"])) r (.lst [])) t=⇑(.tup [.str "fresh"]):=au yb _ _ _ ah;have hr1:(aM (aM H t (.tup [.str "fresh"])) r (.lst [])) r=⇑(.lst []):=ah
 have nr:r≠bk:=λz=>by
  have:=au ht (.tup [.str "fresh"]) _ _ L.hb;rw[← z,yb]at this;cases this
 generalize aM (aM H t (.tup [.str "fresh"])) r (.lst [])=H1 at s1 ht1 hr1;exists S,x,d,wl,sh,bl,kn,du,bk,dS,st,op,pe,ops,aF,t,r,.plain frW [],[],af,rfl,L.same s1,by show H1 t=_;rw[ht1,Dl];rfl,Po,⟨r,[],rfl,hr1,.nil⟩,nr,hl,l1,l2,l3,lt;let⟨B,k3⟩:=k2;exact⟨B,λS' H' L' fr=>k3 S' H' L' (fr.same s1)⟩
theorem lJ{H H1:Hp}{dw:Addr}{o:HO}(h1:H xw=none)(h2:H dw=none)(k:cL xw (aM (aM H dw (.own xw)) xw o) H1):aJ H H1:=λa ob e=>k a ob (by rw[aG (az e h1),aG (az e h2)];exact e) (az e h1)
theorem Sh.ku{C:Addr}{S:Addr->Prop}{H H':Hp}{x d st l:Addr}{bK:kq}{ops:List Int}{fs:List (Str × V)}(h:Sh C S H x d st op bK ops)(hl:H l=⇑(.ins C' d' fs))(nl:¬ S l)(k:cL l H H'):Sh C S H' x d st op bK ops :=
 h.fr (λa ob e z=>k a ob e (λq=>nl (by rw[← q];exact z))) (λa xs e=>k _ _ e (cY e hl))
structure Seen(af:cD)(sh:Int->List Int):Prop where
 es:∀ es∈af,↑es<=1000
 sd:fJ af
 rk:sW af
 ss:qc af sh
 ln:∀ x:Int,0<=x->x<↑af->↑(sh x)<=10000
def Sz.at_{H H':Hp}{q:Addr}{af:List (List aR)}(h:Sz H H' q af):gr H' q af:=by
 let⟨_,rs,hq,al⟩:=h;exists rs.map V.ref,hq
 have key:∀ {as:List Addr} {ds:List (List aR)},bV (λr aP=>H r=none/\r≠q/\bR H' ↥r aP) as ds->bV (bR H') (as.map V.ref) ds:=by
  intro as ds z
  induction z with
  | nil=>exact .nil
  | cons o t ih=>exact .cons o.2.2 ih
 exact key al
def fK.rws{C:Addr}{S:Addr->Prop}{H:Hp}{x d wl bl du bk st:Addr}{pe:iG}{ops:List Int}{aF:iH}{af:cD}{Q:VK}{E:XK}(L:fK C CS S H x d wl sh bl kn du bk dS st op (pT pe) ops aF)(hl:pe.getLast?=⇑af)(l1:↑af<=50)(l2:↑pe<=900)(k:∀ (q:Addr) (H':Hp),gr H' q (af.map aO)->aJ H H'->Q ↥q H'):Pa CS [↥sh] H Q E:=by
 have lo:=rY L hl;have lp:↑(pT pe)=↑pe:=cy _;refine⟨S,sh,dS,st,op,pT pe,ops,rfl,L.W,⟨Q,Q⟩,λrws el q H1 fs s=>?_⟩;rw[jt hl]at el;cases el;exact k q H1 fs.at_ s
theorem fK.chk{C:Addr}{S:Addr->Prop}{H:Hp}{x d wl bl du bk st:Addr}{pe:iG}{ops:List Int}{aF:iH}{af:cD}{s:Int}{Q:VK}{E:XK}(L:fK C CS S H x d wl sh bl kn du bk dS st op (pT pe) ops aF)(hl:pe.getLast?=⇑af)(ia:y9 ↑af s)(k:Q .fV H):Cz CS [↥sh,.int s] H Q E:=⟨S,sh,dS,st,op,pT pe,ops,s,rfl,L.W,by rw[rY L hl];exact ia,k⟩
class inductive Pp(C CS:Addr)
 | mk (S:Addr->Prop) (x d wl sh bl kn du bk dS st op:Addr) (pe:iG) (ops:List Int) (aF:iH) (af:cD) (s:Int) (_:vs=[↥x,.int s]) (_:fK C CS S H x d wl sh bl kn du bk dS st op (pT pe) ops aF) (_:pe.getLast?=⇑af) (_:↑af<=50) (_:↑pe<=900) (_:y9 ↑af s) (_:(∃ f,Seen af f/\∀ (o:Addr) (H':Hp),cB H' o (d9 (f s))->aJ H H'->H o=none->Q ↥o H'))
theorem yF:aH ["self","sheet"] ["self","sheet"] (aB lV):=fc
theorem iQ:‹(5,59,["self","sheet"],(Pp C CS))›:=λD=>by
 specialize fH D.OE.F yF;let⟨S,x,d,wl,sh,bl,kn,du,bk,dS,st,op,pe,ops,aF,af,s,rfl,L,hl,l1,l2,ia,k2⟩:=h;exists _,(ao (aV (eN (dH (pv 0) rfl) D.cN D.Iw (dD D) hr cj (aa (pv 1) aj))) (ay (aN (dX.vj D.Wn (D.T.zW _ D.Wn.m) (OP D) hr (aa (fQ (dH (pv 0) rfl) D.cN D.Iz (gM D) hr cj) (aa (pv 1) aj))))));refine⟨Y,x,C,d,_,↥sh,rfl,L.hx,D.aS.cl,D.gC,rfl,sh,dS,Y,L.W.hx,rfl,Y,L.chk hl ia ?_⟩;let⟨f0,sn,k3⟩:=k2;refine⟨Y,x,C,d,_,↥sh,rfl,L.hx,D.aS.cl,D.gC,rfl,sh,dS,Y,L.W.hx,rfl,L.rws hl l1 l2 λq H1 Xj s1=>?_⟩;have hR:=Xj;exact⟨Y,q,af,s,f0,rfl,hR,Q,sn.es,sn.sd,sn.rk,ia.1,ia.2,sn.ss,sn.ln,λo H2 ho s2 fo=>k3 o H2 ho (s1.trans s2) (aU s1 fo)⟩
theorem fK.fr{C:Addr}{S:Addr->Prop}{H H':Hp}{x d wl bl du bk st:Addr}{bK:kq}{ops:List Int}{aF:iH}(L:fK C CS S H x d wl sh bl kn du bk dS st op bK ops aF)(k:∀ a ob,H a=⇑ob->(S a\/a=bk\/a=x)->H' a=⇑ob)(t:∀ a xs,H a=⇑(.tup xs)->H' a=⇑(.tup xs)):fK C CS S H' x d wl sh bl kn du bk dS st op bK ops aF :=
 ⟨k _ _ L.hx (.inr (.inr rfl)),L.W.fr (λa ob e z=>k a ob e (.inl z)) t,k _ _ L.hb (.inr (.inl rfl)),L.nx,L.nb⟩
structure yG(C CS CW CB:Addr)(U S SW:Addr->Prop)(H:Hp)(x d wl sh bl kn du bk dS st op dw sg ow pw db tb:Addr)(pe:iG)(ops:List Int)(aF:iH)(aL:iF)(nW:Nat)(bZ:Row):Prop where
 L:fK C CS S H x d wl sh bl kn du bk dS st op (pT pe) ops aF
 W:We CW SW H wl dw sg ow pw nW aL
 B:Bl CB H bl db tb
 R:cB H tb bZ
 Xk:Ris bZ
 dj:∀ a,SW a->¬ S a/\a≠bk/\a≠x
 db:¬ S bl/\¬ SW bl/\bl≠bk
 dt:¬ S tb/\¬ SW tb/\tb≠bk
 u:∀ a,U a↔S a\/SW a\/a=bk\/a=x\/a=bl\/a=tb
inductive vW(C CS CW CB:Addr)(U:Addr->Prop)(H:Hp)(x:Addr)(pe:iG)(aF:iH)(aL:iF)(nW:Nat)(bZ:Row):Prop
 | mk (S SW:Addr->Prop) (d wl sh bl kn du bk dS st op dw sg ow pw db tb:Addr) (ops:List Int) (_:yG C CS CW CB U S SW H x d wl sh bl kn du bk dS st op dw sg ow pw db tb pe ops aF aL nW bZ)
def Pq(U U':Addr->Prop)(H H':Hp):Prop:=(∀ a,U' a->U a\/H a=none)/\(∀ a ob,H a=⇑ob->¬ U a->H' a=⇑ob)/\∀ a xs,H a=⇑(.tup xs)->H' a=⇑(.tup xs)
theorem Pq.pre{U U':Addr->Prop}{H0 H H':Hp}(s:aJ H0 H)(f:Pq U U' H H'):Pq U U' H0 H':=⟨λa z=>(f.1 a z).imp id λy=>aU s y,λa ob e n=>f.2.1 a ob (s _ _ e) n,λa xs e=>f.2.2 a xs (s _ _ e)⟩
def yG.fr{C:Addr}{U S SW:Addr->Prop}{H H':Hp}{x d wl bl du bk st dw pw db:Addr}{pe:iG}{ops:List Int}{aF:iH}{aL:iF}{nW:Nat}{bZ:Row}(h:yG C CS CW CB U S SW H x d wl sh bl kn du bk dS st op dw sg ow pw db tb pe ops aF aL nW bZ)(k:∀ a ob,H a=⇑ob->U a->H' a=⇑ob)(t:∀ a xs,H a=⇑(.tup xs)->H' a=⇑(.tup xs)):yG C CS CW CB U S SW H' x d wl sh bl kn du bk dS st op dw sg ow pw db tb pe ops aF aL nW bZ:=by
 let⟨L,W,B,R,Xk,dj,db',dt,u⟩:=h;refine⟨L.fr (λa ob e z=>k a ob e ((u a).mpr ?_)) t,W.fr (λa ob e z=>k a ob e ((u a).mpr (.inr (.inl z)))) t,k _ _ B ((u _).mpr (.inr (.inr (.inr (.inr (.inl rfl)))))),R.two (λxs e=>k _ _ e ((u _).mpr (.inr (.inr (.inr (.inr (.inr rfl))))))) t,Xk,dj,db',dt,u⟩;rcases z with z|z|z
 ·exact .inl z
 ·exact .inr (.inr (.inl z))
 ·exact .inr (.inr (.inr (.inl z)))
theorem yG.same{C:Addr}{U S SW:Addr->Prop}{H H':Hp}{x d wl bl du bk st dw pw db:Addr}{pe:iG}{ops:List Int}{aF:iH}{aL:iF}{nW:Nat}{bZ:Row}(h:yG C CS CW CB U S SW H x d wl sh bl kn du bk dS st op dw sg ow pw db tb pe ops aF aL nW bZ)(s:aJ H H'):yG C CS CW CB U S SW H' x d wl sh bl kn du bk dS st op dw sg ow pw db tb pe ops aF aL nW bZ:=h.fr (λa ob e _=>s a ob e) λa xs e=>s _ _ e
def vW.fr{C:Addr}{U:Addr->Prop}{H H':Hp}{x:Addr}{pe:iG}{aF:iH}{aL:iF}{nW:Nat}{bZ:Row}(h:vW C CS CW CB U H x pe aF aL nW bZ)(k:∀ a ob,H a=⇑ob->U a->H' a=⇑ob)(t:∀ a xs,H a=⇑(.tup xs)->H' a=⇑(.tup xs)):vW C CS CW CB U H' x pe aF aL nW bZ:=by
 let⟨S,SW,d,wl,sh,bl,kn,du,bk,dS,st,op,dw,sg,ow,pw,db,tb,ops,z⟩:=h;exact⟨S,SW,d,wl,sh,bl,kn,du,bk,dS,st,op,dw,sg,ow,pw,db,tb,ops,z.fr k t⟩
theorem vW.same{C:Addr}{U:Addr->Prop}{H H':Hp}{x:Addr}{pe:iG}{aF:iH}{aL:iF}{nW:Nat}{bZ:Row}(h:vW C CS CW CB U H x pe aF aL nW bZ)(s:aJ H H'):vW C CS CW CB U H' x pe aF aL nW bZ:=h.fr (λa ob e _=>s a ob e) λa xs e=>s _ _ e
def yG.za{C:Addr}{U S S' SW:Addr->Prop}{H H':Hp}{x d wl bl du bk st dw pw db:Addr}{pe Ga:iG}{ops IP:List Int}{aF dm:iH}{aL:iF}{nW:Nat}{bZ:Row}(h:yG C CS CW CB U S SW H x d wl sh bl kn du bk dS st op dw sg ow pw db tb pe ops aF aL nW bZ)(L':fK C CS S' H' x d wl sh bl kn du bk dS st op (pT Ga) IP dm)(fr:Fr S S' bk H H'):∃ U',vW C CS CW CB U' H' x Ga dm aL nW bZ/\Pq U U' H H':=by
 let⟨L,W,B,R,Xk,dj,db',dt,u⟩:=h;let⟨as,hR,_⟩:=id R
 have nS':∀ a ob,H a=⇑ob->¬ S a->¬ S' a:=λa ob e n z=>by
  rcases fr.1 a z with y|y
  ·exact n y
  ·rw[e]at y;cases y
 refine⟨λa=>S' a\/SW a\/a=bk\/a=x\/a=bl\/a=tb,⟨S',SW,d,wl,sh,bl,kn,du,bk,dS,st,op,dw,sg,ow,pw,db,tb,IP,L',W.fr (λa ob e z=>fr.2.1 _ _ e (dj a z).1 (dj a z).2.1) fr.2.2,fr.2.1 _ _ B db'.1 db'.2.2,R.two (λxs e=>fr.2.1 _ _ e dt.1 dt.2.2) fr.2.2,Xk,λa z=>?_,⟨nS' _ _ B db'.1,db'.2⟩,⟨nS' _ _ hR dt.1,dt.2⟩,λa=>Iff.rfl⟩,λa z=>?_,λa ob e n=>?_,fr.2.2⟩
 ·let⟨ob,e⟩:=W.al a z;exact⟨nS' _ _ e (dj a z).1,(dj a z).2⟩
 ·rcases z with z|z
  ·exact (fr.1 a z).imp (λy=>(u a).mpr (.inl y)) id
  ·exact .inl ((u a).mpr (.inr z))
 ·exact fr.2.1 a ob e (λz=>n ((u a).mpr (.inl z))) (λz=>n ((u a).mpr (.inr (.inr (.inl z)))))
def Xl(C CS CW CB XH XG:Addr)(U:Addr->Prop)(H:Hp)(x:Addr)(pe:iG)(aF:iH)(aL:iF)(nW:Nat)(bZ:Row)(af:cD)(t:Nat)(es:List Int)(ln:List Nat)(Q:VK)(E:XK):Prop:=vG XH XG (pU af t es) (t:Nat) H E (∀ (U':Addr->Prop) (H':Hp),vW C CS CW CB U' H' x (pe++[pU af t es]) (aF++[ln]) aL nW bZ->Pq U U' H H'->Q .fV H')
theorem fnN:∀ y∈([]:List Int),qt y:=λ_ z=>by cases z
theorem Yg{x:Int}{l:List Int}(a:0<=x)(b:x<10^60)(g:∀ y∈l,qt y):∀ y∈x::l,qt y:=λy z=>(List.mem_cons.mp z).elim (λe=>by rw[e];exact⟨a,b⟩) (g y)
def yG.chg{C:Addr}{U S SW:Addr->Prop}{H H3:Hp}{x d wl bl du bk st dw pw db t q2:Addr}{pe:iG}{ops:List Int}{aF:iH}{aL:iF}{nW:Nat}{bZ:Row}{af:cD}{nm:Str}{n:List Nat}{ns es:List Int}{s:Int}{Q:VK}{E:XK}(LU:yG C CS CW CB U S SW H x d wl sh bl kn du bk dS st op dw sg ow pw db tb pe ops aF aL nW bZ)(sm:aJ H H3)(ht:H3 t=⇑(.tup (.str nm::ns.map V.int)))(hn:nm=fk n)(hk:om WX n=⇑(↑ns:Int))(hf:∀ y∈ns,qt y)(hq:bR H3 ↥q2 (aO es))(fq:H q2=none)(hl:pe.getLast?=⇑af)(l1:↑af<=50)(l2:↑pe<=900)(l3:↑aF<=900)(ia:y9 ↑af s)(B:Xl C CS CW CB XH XG U H x pe aF aL nW bZ af s.toNat es (ko.plain n ns).line Q E):CA C CS XH XG [↥x,↥t,.int s,↥q2] H3 Q E:=by
 subst hn;have i1:=ia.1;have i2:=ia.2;have ss:((s.toNat:Nat):Int)=s:=by lia
 refine⟨S,x,d,wl,sh,bl,kn,du,bk,dS,st,op,pe,ops,aF,t,q2,.plain n ns,s.toNat,es,af,by rw[ss],(LU.same sm).L,ht,⟨hk,hf⟩,hq,(λe=>by have:=LU.L.hb;rw[← e,fq]at this;cases this),hl,Q,l1,l2,l3,vG.imp B sm λk S' H8 L8 Dc=>?_⟩;let⟨U',hL',f'⟩:=(LU.same sm).za L8 Dc;exact k U' H8 hL' (f'.pre sm)
class inductive SS(C CS CW CB:Addr)
 | mk (U:Addr->Prop) (x:Addr) (pe:iG) (aF:iH) (aL:iF) (nW:Nat) (bZ:Row) (h:Int) (cs:List Nat) (af:cD) (_:vs=[↥x,.int h,.str (fk cs)]) (_:vW C CS CW CB U H x pe aF aL nW bZ) (_:qt h) (_:↑cs<=200) (_:↑aL<=90000) (_:nW<=900) (_:pe.getLast?=⇑af) (_:↑af<=50) (_:↑pe<=900) (_:↑aF<=900) (_ :
 ∀ (U':Addr->Prop) (q:Addr) (H':Hp),vW C CS CW CB U' H' x (pe++[af]) (aF++[(ko.A8 h cs).line]) (aL++pS h cs) (nW+1) bZ->Pq U U' H H'->H' q=⇑(.tup [.int (↑aL:Nat),.int (↑(aL++pS h cs):Nat)])->Q ↥q H')
theorem rf:aH ["self","hand","text","stretch"] ["self","hand","text"] (aB nu):=fc
theorem yH:‹(4,57,["self","hand","text"],(SS C CS CW CB))›:=λD=>by
 specialize fH D.aaf.F rf;let⟨U,x,pe,aF,aL,nW,bZ,h,cs,af,rfl,⟨S,SW,d,wl,sh,bl,kn,du,bk,dS,st,op,dw,sg,ow,pw,db,tb,ops,LU⟩,fh,lc,li,ln,hl,l1,l2,l3,k⟩:=h;let⟨L,W,B,R,Xk,dj,db',dt,u⟩:=id LU;exists _,(ao (aW (i:=3) rf.nd (eN (dH (pv 0) rfl) D.jc D.Z5 (DK D) hr cj (aa (pv 1) (aa (pv 2) aj)))) (ao (aV (eN (pv 0) D.aS D.Ww (oq D) hr cj (aa (eL (aa bP (aa (pv 1) (aa (pv 2) aj)))) (aa (bO aj) aj)))) (ay (aN (pv 3)))));refine⟨Y,x,C,d,_,↥wl,rfl,L.hx,D.aS.cl,D.xV,rfl,wl,dw,Y,W.hx,rfl,Y,Y,SW,wl,dw,sg,ow,pw,nW,aL,h,cs,rfl,W,Q,Q,λXm q H1 W1 hq sub fr tp=>?_⟩
 have nSW:∀ a ob,H a=⇑ob->¬ SW a->¬ Xm a:=λa ob e n z=>by
  rcases sub a z with y|y
  ·exact n y
  ·rw[e]at y;cases y
 have nk1:∀ a ob,H a=⇑ob->(S a\/a=bk\/a=x)->¬ SW a:=λa ob e z y=>by
  let⟨y1,y2,y3⟩:=dj a y;rcases z with z|z|z
  ·exact y1 z
  ·exact y2 z
  ·exact y3 z
 have L1:fK C CS S H1 x d wl sh bl kn du bk dS st op (pT pe) ops aF:=L.fr (λa ob e z=>fr _ _ e (nk1 a ob e z)) tp;let⟨as,hR,_⟩:=id R
 have LU1:yG C CS CW CB (λa=>S a\/Xm a\/a=bk\/a=x\/a=bl\/a=tb) S Xm H1 x d wl sh bl kn du bk dS st op dw sg ow pw db tb pe ops aF (aL++pS h cs) (nW+1) bZ:=by
  refine⟨L1,W1,fr _ _ B db'.2.1,R.two (λxs e=>fr _ _ e dt.2.1) tp,Xk,λa z=>?_,⟨db'.1,nSW _ _ B db'.2.1,db'.2.2⟩,⟨dt.1,nSW _ _ hR dt.2.1,dt.2.2⟩,λa=>Iff.rfl⟩;rcases sub a z with y|y
  ·exact dj a y
  ·refine⟨λq'=>?_,λq'=>?_,λq'=>?_⟩
   ·let⟨ob,e⟩:=L.W.al a q';rw[y]at e;cases e
   ·rw[q',L.hb]at y;cases y
   ·rw[q',L.hx]at y;cases y
 refine⟨Y,x,d,Y,L1.hx,rfl,Y,Y,Ir,λt ht=>⟨iZ,λc hc=>?_⟩⟩;have s2:aJ H1 (aM (aM H1 t (.tup [.str "pour",.int h,.str (fk cs)])) c (.lst [])):=(au ht _).trans (au hc _);have Ih:(aM (aM H1 t (.tup [.str "pour",.int h,.str (fk cs)])) c (.lst [])) t=⇑(.tup [.str "pour",.int h,.str (fk cs)]):=au hc _ _ _ ah;have WV:(aM (aM H1 t (.tup [.str "pour",.int h,.str (fk cs)])) c (.lst [])) c=⇑(.lst (([]:List Addr).map V.ref)):=ah
 have nc:c≠bk:=λz=>by
  have:=au ht (.tup [.str "pour",.int h,.str (fk cs)]) _ _ L1.hb;rw[← z,hc]at this;cases this
 generalize aM (aM H1 t (.tup [.str "pour",.int h,.str (fk cs)])) c (.lst [])=H2 at s2 Ih WV;have lp:↑(pT pe)=↑pe:=cy _;have Ku:=LU1.same s2;refine⟨S,x,d,wl,sh,bl,kn,du,bk,dS,st,op,pT pe,ops,aF,t,c,.A8 h cs,[],[],af.map aO,rfl,Ku.L,Ih,⟨fh,lc⟩,WV,nc,.nil,(λ_ z=>by cases z),jt hl,(λi ch e=>by cases e),(by show 0<=200;decide),by rw[cy];lia,Q,Q,λS' H3 L3 fr3=>?_⟩
 have ep:pT pe++[pR (af.map aO) []]=pT (pe++[af]):=by
  show _=(pe++[af]).map _;rw[gU];rfl
 have eo:ops++List.replicate (↑(pR (af.map aO) [])-↑(af.map aO)) ((↑(pT pe):Nat):Int)=ops:=by
  show ops++List.replicate (↑(af.map aO)-↑(af.map aO)) _=ops;rw[Nat.sub_self];exact ic _
 rw[ep,eo]at L3;let⟨U',hL',f'⟩:=Ku.za L3 fr3;refine⟨Y,k U' q H3 hL' ⟨λa z=>?_,λa ob e n=>?_,λa xs e=>f'.2.2 _ _ (s2 _ _ (tp _ _ e))⟩ (f'.2.2 _ _ (s2 _ _ hq))⟩
 ·rcases f'.1 a z with y|y
  ·rcases y with y|y|y
   ·exact .inl ((u a).mpr (.inl y))
   ·exact (sub a y).imp (λw=>(u a).mpr (.inr (.inl w))) id
   ·exact .inl ((u a).mpr (.inr (.inr y)))
  ·have y1:=aU s2 y
   cases e:H a with
   | none=>exact .inr rfl
   | some ob =>
    by_cases z2:SW a
    ·exact .inl ((u a).mpr (.inr (.inl z2)))
    ·rw[fr _ _ e z2]at y1;cases y1
 ·have n1:¬ SW a:=λz=>n ((u a).mpr (.inr (.inl z)));refine f'.2.1 a ob (s2 _ _ (fr _ _ e n1)) λz=>?_;rcases z with z|z|z
  ·exact n ((u a).mpr (.inl z))
  ·exact nSW _ _ e n1 z
  ·exact n ((u a).mpr (.inr (.inr z)))
class inductive Gb(C CS CW CB:Addr)
 | mk (U:Addr->Prop) (x:Addr) (pe:iG) (aF:iH) (aL:iF) (nW:Nat) (bZ:Row) (_:vs=[↥x]) (_:vW C CS CW CB U H x pe aF aL nW bZ) (_:Q (.int (↑aL:Nat)) H)
class inductive Ge(C CS CW CB:Addr)
 | mk (U:Addr->Prop) (x r:Addr) (pe:iG) (aF:iH) (aL:iF) (nW:Nat) (bZ row:Row) (_:vs=[↥x,↥r]) (_:vW C CS CW CB U H x pe aF aL nW bZ) (_:cB H r row) (_:↑row<=1000) (_:uF ↑aL row=true) (_:∀ H',aJ H H'->Q .fV H')
theorem Bd:aH ["self"] ["self"] (aB oY):=fc
theorem rj:aH ["self","row"] ["self","row"] (aB iW):=fc
theorem rm:‹(2,55,["self"],(Gb C CS CW CB))›:=λD=>by
 specialize fH D.aad.F Bd;let⟨U,x,pe,aF,aL,nW,bZ,rfl,⟨S,SW,d,wl,sh,bl,kn,du,bk,dS,st,op,dw,sg,ow,pw,db,tb,ops,LU⟩,k⟩:=h;exists _,(ay (aN (fQ (dH (pv 0) rfl) D.jc D.LP (jK D) hr cj)));exact⟨Y,x,C,d,_,↥wl,rfl,LU.L.hx,D.aS.cl,D.xV,rfl,wl,dw,Y,LU.W.hx,rfl,wl,dw,sg,ow,pw,aL,rfl,LU.W.hx,LU.W.hs,k⟩
theorem qv:‹(3,56,["self","row"],(Ge C CS CW CB))›:=λD=>by
 have SV:aY P w K mg zt cP 2 _ _ GY (Gb C CS CW CB):=rm D;specialize fH D.aae.F rj;let⟨U,x,r,pe,aF,aL,nW,bZ,row,rfl,LB,hr1,lr,g,k1⟩:=h;let⟨S,SW,d,wl,sh,bl,kn,du,bk,dS,st,op,dw,sg,ow,pw,db,tb,ops,LU⟩:=id LB;exists _,(ay (bS (gg (fN (eN (dH (pv 0) rfl) D.jc D.Z6 (Bb D) hr cj (aa (pv 1) aj)))) (ay lN) bG));refine⟨Y,x,C,d,_,↥wl,rfl,LU.L.hx,D.aS.cl,D.xV,rfl,wl,dw,Y,LU.W.hx,rfl,Y,SW,wl,dw,sg,ow,pw,r,nW,aL,row,rfl,LU.W,hr1,lr,λH1 s1=>⟨Y,?_⟩⟩;rw[g];exact dM (k1 H1 s1)
abbrev ptW:List Nat:=(Str.ofString "put").cps.toList
class inductive SX(C CS CW CB XH XG:Addr)
 | mk (U:Addr->Prop) (x r:Addr) (pe:iG) (aF:iH) (aL:iF) (nW:Nat) (bZ row:Row) (s p:Int) (af:cD) (_:vs=[↥x,.int s,.int p,↥r]) (_:vW C CS CW CB U H x pe aF aL nW bZ) (_:cB H r row) (_:OZ row) (_:↑aL<=100000) (_:pe.getLast?=⇑af) (_:↑af<=50) (_:↑pe<=900) (_:↑aF<=900) (_:Ib s) (_:Ib p) (_:y9 ↑af s) (_:uF ↑aL row=true) (_:(∃ sh,Seen af sh/\(0<=p/\p<=↑(sh s))/\((∀ es,af[s.toNat]?=⇑es->Xl C CS CW CB XH XG U H x pe aF aL nW bZ af s.toNat (eV sh p es (eS (fD (cU row)))) (ko.sY ptW [s,p] row).line Q E))))
theorem tw:aH ["self","sheet","place","row","items"] ["self","sheet","place","row"] (aB oZ):=fc
def CC(ns:List Int):jP (d9 ns)=(↑ns:Int):=by rw[← rN _ (qQ _),fZ]
theorem Mv{n:Nat}{row:Row}(h:uF n row=true):∀ p∈row,0<=p.1/\p.1<p.2/\p.2<=n:=λp hp=>by
 have z:=List.all_eq_true.mp h p hp;unfold Qs at z;simpa [and_assoc] using z
def Ib.big{s:Int}(h:Ib s):s<10^60:=by
 let⟨_,h1⟩:=h;lia
def Ao(D:Ds K mg aX aZ C CS CW CB CT CD aA XG ci):aY P w K mg zt (Es P w) 6 (aX 58) (aZ 58) ["self","sheet","place","row"] (SX C CS CW CB aA XG):=by
 refine ZK D.aag.F tw λcJ A zn s0 H vs Q E hr h=>?_;let⟨U,x,r,pe,aF,aL,nW,bZ,row,s,p,af,rfl,LB,hr1,fr,li,hl,l1,l2,l3,fs,fp,ia,g,k2⟩:=h;let⟨S,SW,d,wl,sh,bl,kn,du,bk,dS,st,op,dw,sg,ow,pw,db,tb,ops,LU⟩:=id LB;exists _,(ao (aV (aI D.dq6 (kQ D) hr (aa (eN (pv 0) D.aS D.OE (iQ D) hr cj (aa (pv 1) aj)) (aa (pv 2) (aa (pv 2) aj))))) (ao (aV (eN (pv 0) D.aS D.aae (qv D) hr cj (aa (pv 3) aj))) (ao (aW (i:=4) tw.nd (aI D.Wr (vC D) hr (aa (fQ (dH (pv 0) rfl) D.cN D.Iz (gM D) hr cj) (aa (pv 1) (aa (pv 2) (aa (aI D.LO (qW D) hr (aa (pv 3) aj)) aj)))))) (ay (aV (eN (pv 0) D.aS D.OD (gY D) hr JY (aa (eL (aa bP (aa (pv 1) (aa (pv 2) (aa (pv 3) aj))))) (aa (pv 1) (aa (pv 4) aj)))))))));exists Y,x,d,Y,LU.L.hx,rfl,Y,S,x,d,wl,sh,bl,kn,du,bk,dS,st,op,pe,ops,aF,af,s,rfl,LU.L,hl,l1,l2,ia;let⟨f0,sn,hpp,k6⟩:=k2;have ls:↑(f0 s)<=10000:=sn.ln s ia.1 ia.2;have lr0:=rV (f0 s);refine⟨f0,sn,λo H1 ho s1 fo=>?_⟩;have z:In3 p p (jP (d9 (f0 s))):=by rw[CC];exact⟨hpp.1,Int.le_refl _,hpp.2⟩
 refine⟨Y,Y,o,d9 (f0 s),p,p,rfl,ho,Q,z,λH2 s2=>?_⟩;have mO:=s1.trans s2;have Ku:=LU.same mO;have Kg:=hr1.same mO;refine⟨Y,x,d,Y,Ku.L.hx,rfl,Y,U,x,r,pe,aF,aL,nW,bZ,row,rfl,LB.same mO,Kg,by have:=fr.1;lia,g,λH3 s3=>?_⟩;have Lx:=mO.trans s3;have LU3:=LU.same Lx;have G5:=hr1.same Lx;have hp:=Mv g;have sl:s.toNat<↑af:=by have:=ia.1;have:=ia.2;lia
 obtain⟨es,vV⟩:∃ es,af[s.toNat]?=⇑es:=⟨_,qB sl⟩;have B:=k6 _ vV;refine⟨Y,x,C,d,_,↥sh,rfl,LU3.L.hx,D.aS.cl,D.gC,rfl,sh,dS,Y,LU3.L.W.hx,rfl,LU3.L.rws hl l1 l2 λq H4 fs4 s4=>?_⟩;have hR:=fs4;have hr4:=G5.same s4;refine⟨Y,Y,Y,r,row,rfl,hr4,by have:=fr.1;lia,λoi H5 hoi s5 foi=>?_⟩;have nn:pX row:=λp' Ud=>⟨(hp p' Ud).1,by have:=(hp p' Ud).2.1;lia⟩;refine⟨q,oi,af,s,p,_,f0,rfl,⟨hR.same s5,Q,sn.es,sn.sd,sn.rk,sn.ss,sn.ln⟩,ia.1,ia.2,hoi,Ac (wR nn),?_,hpp,λes q2 H6 Be eK s6 Yh=>?_⟩
 ·unfold fD;rw[cy];have:=rQ row;have:=fr.1;lia
 rw[vV]at Be;cases Be;have s16:aJ H H6:=Lx.trans (s4.trans (s5.trans s6));have LU6:=LU.same s16
 have nq2:q2≠bk:=λe=>by
  have y:=(LU.same (Lx.trans (s4.trans s5))).L.hb;rw[← e,Yh]at y;cases y
 refine⟨Y,x,d,Y,LU6.L.hx,rfl,Y,Y,Y,LM,λt ht=>?_⟩;have s7:=au ht (.tup [.str "put",.int s,.int p,↥r]);have ht7:(aM H6 t (.tup [.str "put",.int s,.int p,↥r])) t=⇑(.tup [.str "put",.int s,.int p,↥r]):=ah;generalize aM H6 t (.tup [.str "put",.int s,.int p,↥r])=H7 at s7 ht7;have SY:=s16.trans s7;have LU7:=LU.same SY;have ss:((s.toNat:Nat):Int)=s:=by have:=ia.1;lia
 refine⟨Y,Y,S,x,d,wl,sh,bl,kn,du,bk,dS,st,op,pe,ops,aF,t,q2,.sY ptW [s,p] row,s.toNat,_,af,by rw[ss];rfl,LU7.L,⟨r,by rw[ht7,Dl];rfl,hr1.same SY⟩,⟨(by show om AHD ptW=some 2;decide +kernel),?_,fr⟩,eK.same s7,nq2,hl,by have:=ia.2;have:=ia.1;lia,l1,l2,l3,vG.imp B SY λk7 S' H8 L8 Dc=>?_⟩
 ·intro y hy;have b1:=ia.1;have b2:=hpp.1;rcases List.mem_cons.mp hy with e|e
  ·rw[e];exact⟨b1,fs.big⟩
  ·rw[List.mem_singleton.mp e];exact⟨b2,fp.big⟩
 ·let⟨U',hL',f'⟩:=LU7.za L8 Dc;exact k7 U' H8 hL' (f'.pre SY)
theorem We.ku{C:Addr}{S:Addr->Prop}{H H':Hp}{x d s o p l:Addr}{n:Nat}{aL:iF}{fs:List (Str × V)}(h:We C S H x d s o p n aL)(hl:H l=⇑(.ins C' d' fs))(nl:¬ S l)(k:cL l H H'):We C S H' x d s o p n aL :=
 h.fr (λa ob e z=>k a ob e (λq=>nl (by rw[← q];exact z))) (λa xs e=>k _ _ e (cY e hl))
theorem cB.ku{H H':Hp}{r l:Addr}{row:Row}{fs:List (Str × V)}(h:cB H r row)(hl:H l=⇑(.ins C' d' fs))(k:cL l H H'):cB H' r row :=
 h.two (λxs e=>k _ _ e (cY e hl)) (λa xs e=>k _ _ e (cY e hl))
def ou{H:Hp}{dw a:Addr}{o:HO}(e:(aM (aM H dw (.own xw)) xw o) a=none):H a=none:=by
 by_cases z1:a=xw
 ·rw[z1,ah]at e;cases e
 rw[aG z1]at e;by_cases z2:a=dw
 ·rw[z2,ah]at e;cases e
 rw[aG z2]at e;exact e
class inductive CF(C CS CW CB:Addr)
 | mk (x d:Addr) (_:vs=[↥x]) (_:H x=⇑(.ins C d [])) (_: ∀ (U:Addr->Prop) (H':Hp),vW C CS CW CB U H' x [[]] [] [] 0 []->(∀ a,U a->a=x\/H a=none)->cL x H H'->Q .fV H')
theorem uG:aH ["self"] ["self"] (aB jF):=fc
theorem sG:‹(3,48,["self"],(CF C CS CW CB))›:=λD=>by
 specialize fH D.Z9.F uG;let⟨x,d,rfl,hx,k⟩:=h;refine⟨_,(ao (jg (pv 0) (nQ D.jc.X0 (xy D) (hr.mono (by decide)) rfl D.jc.m D.Z4.b .nil cj) rfl) (ao (jg (pv 0) (nQ D.cN.X0 (vE D) (hr.mono (by decide)) rfl D.cN.m D.ZX.b .nil cj) rfl) (ao (jg (pv 0) (nQ D.uv.X0 (vp D) (hr.mono (by decide)) rfl D.uv.m D.dq8.b .nil cj) rfl) (ao (jg (pv 0) (nQ D.Cm.X0 (xu D) (hr.mono (by decide)) rfl D.Cm.m D.Z2.b .nil cj) rfl) (ao (jg (pv 0) (nQ D.FA.X0 (xr D) (hr.mono (by decide)) rfl D.FA.m D.Z3.b .nil cj) rfl) (ay (jg (pv 0) (bO aj) rfl))))))),?_⟩;intro wl dw hw1 hw2 _;refine⟨wl,dw,rfl,ah,λsg ow pw H1 V1 k1 fsg fow fpw=>⟨rfl,?_⟩⟩;have s1:=lJ hw1 hw2 k1
 have fW:∀ a,(a=wl\/a=sg\/a=ow\/a=pw)->H a=none:=λa e=>by
  rcases e with rfl|rfl|rfl|rfl
  ·exact hw1
  ·exact ou fsg
  ·exact ou fow
  ·exact ou fpw
 have Xn:¬ (x=wl\/x=sg\/x=ow\/x=pw):=λe=>by
  have:=fW x e;rw[hx]at this;cases this
 exists Y,x,C,d,Y,s1 _ _ hx,D.aS.cl,D.xV,E;have q2:cL x H (aM H1 x (.ins C d (L2.dR "well" ↥wl []))):=cL.trans (gG.aJ.keep s1) (aK x _ _);have x2:(aM H1 x (.ins C d (L2.dR "well" ↥wl []))) x=⇑(.ins C d [("well",↥wl)]):=ah;have kx2:cL x H1 (aM H1 x (.ins C d (L2.dR "well" ↥wl []))):=aK x _ _;generalize aM H1 x (.ins C d (L2.dR "well" ↥wl []))=H2 at q2 x2 kx2;have V2:=V1.ku (s1 _ _ hx) Xn kx2;intro sh dS Xa G1 _;refine⟨sh,dS,rfl,ah,λst op z H3 W3 k3 fst fop fz=>⟨rfl,?_⟩⟩;have s3:=lJ Xa G1 k3
 have up:∀ a,(aM (aM H2 dS (.own sh)) sh (.ins CS dS [])) a=none->H2 a=none:=λa e=>by
  by_cases z1:a=sh
  ·rw[z1,ah]at e;cases e
  rw[aG z1]at e;by_cases z2:a=dS
  ·rw[z2,ah]at e;cases e
  rw[aG z2]at e;exact e
 have fS:∀ a,(a=sh\/a=st\/a=op\/a=z)->H2 a=none:=λa e=>by
  rcases e with rfl|rfl|rfl|rfl
  ·exact Xa
  ·exact up _ fst
  ·exact up _ fop
  ·exact up _ fz
 have Xo:¬ (x=sh\/x=st\/x=op\/x=z):=λe=>by
  have:=fS x e;rw[x2]at this;cases this
 have x3:=s3 _ _ x2;have V3:=V2.same s3;refine⟨Y,x,C,d,Y,x3,D.aS.cl,D.gC,(by show 1<1000;decide),?_⟩;have k4:cL x H3 (aM H3 x (.ins C d (L2.dR "shelf" ↥sh [("well",↥wl)]))):=aK x _ _;have x4:(aM H3 x (.ins C d (L2.dR "shelf" ↥sh [("well",↥wl)]))) x=⇑(.ins C d [("well",↥wl),("shelf",↥sh)]):=ah;generalize aM H3 x (.ins C d (L2.dR "shelf" ↥sh [("well",↥wl)]))=H4 at k4 x4;have W4:=W3.ku x3 Xo k4;have V4:=V3.ku x3 Xn k4;have q4:cL x H H4:=(q2.trans (gG.aJ.keep s3)).trans k4;intro bl db FD WT _;refine⟨bl,db,rfl,ah,λtb H5 B5 R5 k5 ftb=>⟨rfl,?_⟩⟩;have s5:=lJ FD WT k5;have Xp:=ou ftb;have x5:=s5 _ _ x4;have W5:=W4.same s5;have V5:=V4.same s5;have Pr:bl≠x:=(az x4 FD).symm;refine⟨Y,x,C,d,Y,x5,D.aS.cl,D.zx,(by show 2<1000;decide),?_⟩;have k6:cL x H5 (aM H5 x (.ins C d (L2.dR "blots" ↥bl [("well",↥wl),("shelf",↥sh)]))):=aK x _ _;have x6:(aM H5 x (.ins C d (L2.dR "blots" ↥bl [("well",↥wl),("shelf",↥sh)]))) x=⇑(.ins C d [("well",↥wl),("shelf",↥sh),("blots",↥bl)]):=ah;generalize aM H5 x (.ins C d (L2.dR "blots" ↥bl [("well",↥wl),("shelf",↥sh)]))=H6 at k6 x6;have W6:=W5.ku x5 Xo k6;have V6:=V5.ku x5 Xn k6;have B6:Bl CB H6 bl db tb:=k6 _ _ B5 Pr;have R6:=R5.ku x5 k6;have q6:cL x H H6:=(q4.trans (gG.aJ.keep s5)).trans k6;intro kn dk hk1 hk2 _;refine⟨kn,dk,rfl,ah,λfs7 H7 _ k7=>⟨rfl,?_⟩⟩;have s7:=lJ hk1 hk2 k7;have x7:=s7 _ _ x6;have W7:=W6.same s7;have V7:=V6.same s7;have B7:Bl CB H7 bl db tb:=s7 _ _ B6;have R7:=R6.same s7;refine⟨Y,x,C,d,Y,x7,D.aS.cl,D.C8,(by show 3<1000;decide),?_⟩;have k8:cL x H7 (aM H7 x (.ins C d (L2.dR "knots" ↥kn [("well",↥wl),("shelf",↥sh),("blots",↥bl)]))):=aK x _ _;have x8:(aM H7 x (.ins C d (L2.dR "knots" ↥kn [("well",↥wl),("shelf",↥sh),("blots",↥bl)]))) x=⇑(.ins C d [("well",↥wl),("shelf",↥sh),("blots",↥bl),("knots",↥kn)]):=ah;generalize aM H7 x (.ins C d (L2.dR "knots" ↥kn [("well",↥wl),("shelf",↥sh),("blots",↥bl)]))=H8 at k8 x8;have W8:=W7.ku x7 Xo k8;have V8:=V7.ku x7 Xn k8;have B8:Bl CB H8 bl db tb:=k8 _ _ B7 Pr;have R8:=R7.ku x7 k8;have q8:cL x H H8:=(q6.trans (gG.aJ.keep s7)).trans k8;intro du dd VS hd2 _;refine⟨du,dd,rfl,ah,λfs9 H9 _ k9=>⟨rfl,?_⟩⟩;have s9:=lJ VS hd2 k9;have x9:=s9 _ _ x8;have W9:=W8.same s9;have V9:=V8.same s9;have B9:Bl CB H9 bl db tb:=s9 _ _ B8;have R9:=R8.same s9;refine⟨Y,x,C,d,Y,x9,D.aS.cl,D.JQ,(by show 4<1000;decide),?_⟩;have Yi:cL x H9 (aM H9 x (.ins C d (L2.dR "dues" ↥du [("well",↥wl),("shelf",↥sh),("blots",↥bl),("knots",↥kn)]))):=aK x _ _;have Yj:(aM H9 x (.ins C d (L2.dR "dues" ↥du [("well",↥wl),("shelf",↥sh),("blots",↥bl),("knots",↥kn)]))) x=⇑(.ins C d [("well",↥wl),("shelf",↥sh),("blots",↥bl),("knots",↥kn),("dues",↥du)]):=ah;generalize aM H9 x (.ins C d (L2.dR "dues" ↥du [("well",↥wl),("shelf",↥sh),("blots",↥bl),("knots",↥kn)]))=MP at Yi Yj;have W10:=W9.ku x9 Xo Yi;have V10:=V9.ku x9 Xn Yi;have B10:Bl CB MP bl db tb:=Yi _ _ B9 Pr;have R10:=R9.ku x9 Yi;have BS:cL x H MP:=(q8.trans (gG.aJ.keep s9)).trans Yi;refine⟨iZ,λbk Uy=>⟨Y,x,C,d,Y,au Uy _ _ _ Yj,D.aS.cl,D.EX,(by show 5<1000;decide),?_⟩⟩;have nbx:bk≠x:=(az Yj Uy).symm
 have nSb:¬ (bk=sh\/bk=st\/bk=op\/bk=z):=λe=>by
  let⟨ob,w⟩:=W10.al bk e;rw[Uy]at w;cases w
 have vR:=au Uy (.lst []);have k12:cL x (aM MP bk (.lst [])) (aM (aM MP bk (.lst [])) x (.ins C d (L2.dR "book" ↥bk [("well",↥wl),("shelf",↥sh),("blots",↥bl),("knots",↥kn),("dues",↥du)]))):=aK x _ _;have W12:=(W10.same vR).ku (vR _ _ Yj) Xo k12;have V12:=(V10.same vR).ku (vR _ _ Yj) Xn k12;have B12:=k12 _ _ (vR _ _ B10) Pr;have R12:=(R10.same vR).ku (vR _ _ Yj) k12;let⟨as5,hR5,_⟩:=id R5;have abk:∀ a,(a=sh\/a=st\/a=op\/a=z)->a=x\/H a=none:=λa e=>.inr (iL q2 (λe'=>by rw[e']at e;exact Xo e) (fS a e));refine k (λa=>(a=sh\/a=st\/a=op\/a=z)\/(a=wl\/a=sg\/a=ow\/a=pw)\/a=bk\/a=x\/a=bl\/a=tb) _ ⟨P,d,wl,sh,bl,kn,du,bk,dS,st,op,dw,sg,ow,pw,db,tb,[],⟨ah,W12,?_,Xo,nSb⟩,V12,B12,R12,?_,?_,?_,?_,λa=>Iff.rfl⟩ ?_ ((BS.trans (gG.aJ.keep vR)).trans k12)
 ·rw[aG nbx];exact ah
 ·exact⟨.nil,λ_ z=>by cases z⟩
 ·intro a ea;let⟨ob,hob⟩:=V2.al a ea;refine⟨λes=>?_,λeb=>?_,λex=>?_⟩
  ·rw[fS a es]at hob;cases hob
  ·let⟨ob',w⟩:=V10.al a ea;rw[eb,Uy]at w;cases w
  ·rw[ex]at ea;exact Xn ea
 ·refine⟨λes=>?_,λew=>?_,λeb=>?_⟩
  ·let⟨ob,w⟩:=W4.al bl es;rw[FD]at w;cases w
  ·let⟨ob,w⟩:=V4.al bl ew;rw[FD]at w;cases w
  ·rw[eb]at B10;have abl:MP bk=⇑_:=B10;rw[Uy]at abl;cases abl
 ·refine⟨λes=>?_,λew=>?_,λeb=>?_⟩
  ·let⟨ob,w⟩:=W4.al tb es;rw[Xp]at w;cases w
  ·let⟨ob,w⟩:=V4.al tb ew;rw[Xp]at w;cases w
  ·let⟨as,hR,_⟩:=id R10;rw[eb,Uy]at hR;cases hR
 ·intro a ea;rcases ea with ea|ea|ea|ea|ea|ea
  ·exact abk a ea
  ·exact .inr (fW a ea)
  ·rw[ea];exact .inr (iL BS nbx Uy)
  ·exact .inl ea
  ·rw[ea];exact .inr (iL q4 Pr FD)
  ·by_cases ex:a=x
   ·exact .inl ex
   ·rw[ea]at ex ⊢;exact .inr (iL q4 ex Xp)
abbrev ctW:List Nat:=(Str.ofString "cut").cps.toList
class inductive S0(C CS CW CB XH XG:Addr)
 | mk (U:Addr->Prop) (x:Addr) (pe:iG) (aF:iH) (aL:iF) (nW:Nat) (bZ:Row) (s a b:Int) (af:cD) (_:vs=[↥x,.int s,.int a,.int b]) (_:vW C CS CW CB U H x pe aF aL nW bZ) (_:pe.getLast?=⇑af) (_:↑af<=50) (_:↑pe<=900) (_:↑aF<=900) (_:Ib s) (_:Ib a) (_:Ib b)
  (_:y9 ↑af s) (_:∃ sh,Seen af sh/\In3 a b ↑(sh s)/\(∀ es,af[s.toNat]?=⇑es->Xl C CS CW CB XH XG U H x pe aF aL nW bZ af s.toNat (dY sh a b es) (ko.plain ctW [s,a,b]).line Q E))
class inductive Xq(C CS:Addr)
 | mk (S:Addr->Prop) (x d wl sh bl kn du bk dS st op:Addr) (pe:iG) (ops:List Int) (aF:iH) (af:cD) (s:Int) (_:vs=[↥x,.int s]) (_:fK C CS S H x d wl sh bl kn du bk dS st op (pT pe) ops aF) (_:pe.getLast?=⇑af) (_:↑af<=50) (_:↑pe<=900)
  (_:y9 ↑af s) (_:∀ es,af[s.toNat]?=⇑es->∀ (q:Addr) (H':Hp),bR H' ↥q (aO es)->aJ H H'->H q=none->Q ↥q H')
theorem tF:aH ["self","sheet","start","stop","items"] ["self","sheet","start","stop"] (aB pA):=fc
def Aq(D:Ds K mg aX aZ C CS CW CB CT CD aA XG ci):aY P w K mg zt (Es P w) 6 (aX 60) (aZ 60) ["self","sheet","start","stop"] (S0 C CS CW CB aA XG):=by
 refine ZK D.aah.F tF λcJ A zn s0 H vs Q E hr h=>?_;let⟨U,x,pe,aF,aL,nW,bZ,s,a,b,af,rfl,LB,hl,l1,l2,l3,fs,fa,fb,ia,k2⟩:=h;let⟨S,SW,d,wl,sh,bl,kn,du,bk,dS,st,op,dw,sg,ow,pw,db,tb,ops,LU⟩:=id LB;exists _,(ao (aV (eN (dH (pv 0) rfl) D.cN D.Iw (dD D) hr cj (aa (pv 1) aj))) (ao (aW (i:=4) tF.nd (aI D.ZV (DB D) hr (aa (fQ (dH (pv 0) rfl) D.cN D.Iz (gM D) hr cj) (aa (pv 1) (aa (pv 2) (aa (pv 3) aj)))))) (ay (aV (eN (pv 0) D.aS D.OD (gY D) hr JY (aa (eL (aa bP (aa (pv 1) (aa (pv 2) (aa (pv 3) aj))))) (aa (pv 1) (aa (pv 4) aj))))))));refine⟨Y,x,C,d,_,↥sh,rfl,LU.L.hx,D.aS.cl,D.gC,rfl,sh,dS,Y,LU.L.W.hx,rfl,Y,LU.L.chk hl ia ?_⟩;let⟨f0,sn,i3,k4⟩:=k2;refine⟨Y,x,C,d,_,↥sh,rfl,LU.L.hx,D.aS.cl,D.gC,rfl,sh,dS,Y,LU.L.W.hx,rfl,LU.L.rws hl l1 l2 λq H1 Xj s1=>?_⟩;have sl:s.toNat<↑af:=by have:=ia.1;have:=ia.2;lia
 obtain⟨es,vV⟩:∃ es,af[s.toNat]?=⇑es:=⟨_,qB sl⟩;refine⟨Y,Y,Y,q,af,s,a,b,f0,rfl,⟨Xj,Q,sn.es,sn.sd,sn.rk,sn.ss,sn.ln⟩,ia.1,ia.2,i3,λrK q2 H2 Be eK s2 Yh=>?_⟩;rw[vV]at Be;cases Be;have B:=k4 es vV;have mO:=s1.trans s2;have Ku:=LU.same mO;exact⟨Y,x,d,Y,Ku.L.hx,rfl,Y,Y,Y,LM,λt ht=>⟨Y,Y,LU.chg (mO.trans (au ht _)) ah (Dl _).symm (by show om WX ctW=some 3;decide +kernel) (Yg ia.1 fs.big (Yg i3.1 fa.big (Yg (by have:=i3.1;have:=i3.2.1;lia) fb.big fnN))) (eK.same (au ht _)) (aU s1 Yh) hl l1 l2 l3 ia B⟩⟩
theorem Bf:aH ["self","sheet"] ["self","sheet"] (aB pB):=fc
theorem Ar:‹(4,61,["self","sheet"],(Xq C CS))›:=λD=>by
 refine fH D.aai.F Bf λcJ A zn s0 H vs Q E hr h=>?_;let⟨S,x,d,wl,sh,bl,kn,du,bk,dS,st,op,pe,ops,aF,af,s,rfl,L,hl,l1,l2,ia,k2⟩:=h;have lo:=rY L hl;have hl':=jt hl;have lp:↑(pT pe)=↑pe:=cy _;exists _,(ay (aN (eN (dH (pv 0) rfl) D.cN D.Z1 (DH D) hr cj (aa (pv 1) aj))));refine⟨Y,x,C,d,_,↥sh,rfl,L.hx,D.aS.cl,D.gC,rfl,sh,dS,Y,L.W.hx,rfl,Y,S,sh,dS,st,op,pT pe,ops,s,rfl,L.W,by rw[lo];exact ia,λsi last aP e1 e2 e3=>?_⟩;rw[hl']at e2;cases e2;rw[gf]at e3;let⟨es,e4,rfl⟩:=Option.map_eq_some_iff.mp e3;have il:=(List.getElem?_eq_some_iff.mp e4).1;exact λq H' hq s1 fq=>k2 es (by rw[e1,Int.toNat_natCast];exact e4) q H' hq s1 fq
abbrev wnW:List Nat:=(Str.ofString "window").cps.toList
class inductive Pu(C CS CW CB XH XG:Addr)
 | mk (U:Addr->Prop) (x:Addr) (pe:iG) (aF:iH) (aL:iF) (nW:Nat) (bZ:Row) (t p s:Int) (af:cD) (_:vs=[↥x,.int t,.int p,.int s]) (_:vW C CS CW CB U H x pe aF aL nW bZ) (_:pe.getLast?=⇑af) (_:↑af<=50) (_:↑pe<=900) (_:↑aF<=900) (_:Ib t) (_:Ib p) (_:Ib s)
  (_:y9 ↑af t) (_:y9 ↑af s) (_:(∃ sh,Seen af sh/\(0<=p/\p<=↑(sh t))/\(∀ es,af[t.toNat]?=⇑es->Xl C CS CW CB XH XG U H x pe aF aL nW bZ af t.toNat (eV sh p es [-1-s]) (ko.plain wnW [t,p,s]).line Q E)))
theorem oz:aH ["self","target","place","source","items"] ["self","target","place","source"] (aB kL):=fc
def vH(D:Ds K mg aX aZ C CS CW CB CT CD aA XG ci):aY P w K mg zt (Es P w) 6 (aX 62) (aZ 62) ["self","target","place","source"] (Pu C CS CW CB aA XG):=by
 refine ZK D.Wy.F oz λcJ A zn s0 H vs Q E hr h=>?_;let⟨U,x,pe,aF,aL,nW,bZ,t,p,s,af,rfl,LB,hl,l1,l2,l3,ft,fp,fs,it,ia,k4⟩:=h;let⟨S,SW,d,wl,sh,bl,kn,du,bk,dS,st,op,dw,sg,ow,pw,db,tb,ops,LU⟩:=id LB;exists _,(ao (aV (eN (dH (pv 0) rfl) D.cN D.Iw (dD D) hr cj (aa (pv 1) aj))) (ao (aV (eN (dH (pv 0) rfl) D.cN D.Iw (dD D) hr cj (aa (pv 3) aj))) (ao (aW (i:=4) oz.nd (aI D.Wr (vC D) hr (aa (fQ (dH (pv 0) rfl) D.cN D.Iz (gM D) hr cj) (aa (pv 1) (aa (pv 2) (aa (bO (aa (eL (aa bP (aa (pv 3) aj))) aj)) aj)))))) (ay (aV (eN (pv 0) D.aS D.OD (gY D) hr JY (aa (eL (aa bP (aa (pv 1) (aa (pv 2) (aa (pv 3) aj))))) (aa (pv 1) (aa (pv 4) aj)))))))));refine⟨Y,x,C,d,_,↥sh,rfl,LU.L.hx,D.aS.cl,D.gC,rfl,sh,dS,Y,LU.L.W.hx,rfl,Y,LU.L.chk hl it ?_⟩;refine⟨Y,x,C,d,_,↥sh,rfl,LU.L.hx,D.aS.cl,D.gC,rfl,sh,dS,Y,LU.L.W.hx,rfl,Y,LU.L.chk hl ia ?_⟩;let⟨f0,sn,ip,k8⟩:=k4;refine⟨Y,x,C,d,_,↥sh,rfl,LU.L.hx,D.aS.cl,D.gC,rfl,sh,dS,Y,LU.L.W.hx,rfl,LU.L.rws hl l1 l2 λq H1 Xj s1=>?_⟩;have tl:t.toNat<↑af:=by have:=it.1;have:=it.2;lia
 obtain⟨es,vV⟩:∃ es,af[t.toNat]?=⇑es:=⟨_,qB tl⟩;refine⟨Y,Y,Y,qU,λt2 Ih=>⟨jY,λo ho=>?_⟩⟩;have s2:=au Ih (.tup [.str "win",.int s]);have t2':(aM H1 t2 (.tup [.str "win",.int s])) t2=⇑(.tup [.str "win",.int s]):=ah;generalize aM H1 t2 (.tup [.str "win",.int s])=H2 at s2 t2' ho;have s3:=au ho (.lst [↥t2]);have o3:(aM H2 o (.lst [↥t2])) o=⇑(.lst [↥t2]):=ah;show ye _ (aM H2 o (.lst [↥t2])) _ _;generalize aM H2 o (.lst [↥t2])=H3 at s3 o3;have Lx:=s1.trans (s2.trans s3);have hoi:bR H3 ↥o [.win s]:=⟨o,Y,o3,.cons ⟨t2,rfl,s3 _ _ t2'⟩ .nil⟩;refine⟨q,o,af,t,p,[.win s],f0,rfl,⟨Xj.same (s2.trans s3),Q,sn.es,sn.sd,sn.rk,sn.ss,sn.ln⟩,it.1,it.2,hoi,.one ia.1,(by show 1<=10000;decide),ip,λrK q2 H5 Be eK s5 Yh=>?_⟩;rw[vV]at Be;cases Be;rw[show eS [aR.win s]=[-1-s] from rfl]at eK;have B:=k8 es vV;have Xr:=Lx.trans s5;have LU5:=LU.same Xr;exact⟨Y,x,d,Y,LU5.L.hx,rfl,Y,Y,Y,LM,λt' ht=>⟨Y,Y,LU.chg (Xr.trans (au ht _)) ah (Dl _).symm (by show om WX wnW=some 3;decide +kernel) (Yg it.1 ft.big (Yg ip.1 fp.big (Yg ia.1 fs.big fnN))) (eK.same (au ht _)) (aU Lx Yh) hl l1 l2 l3 it B⟩⟩
class inductive Mw(C CS:Addr)
 | mk (S:Addr->Prop) (x d wl sh bl kn du bk dS st op:Addr) (pe:iG) (ops:List Int) (aF:iH) (af:cD) (si:Nat) (f:Int->Int) (_:vs=[↥x,.int (si:Nat)]) (_:fK C CS S H x d wl sh bl kn du bk dS st op (pT pe) ops aF) (_:pe.getLast?=⇑af) (_:↑af<=50) (_:↑pe<=900) (_:si<↑af) (_:qZ af f) (_:∀ H',aJ H H'->Q (.int (f (si:Nat))) H')
theorem xH:aH ["self","sheet"] ["self","sheet"] (aB kM):=fc
theorem vI:‹(5,63,["self","sheet"],(Mw C CS))›:=λD=>by
 specialize fH D.aaj.F xH;let⟨S,x,d,wl,sh,bl,kn,du,bk,dS,st,op,pe,ops,aF,af,si,f,rfl,L,hl,l1,l2,sl,B,k⟩:=h;have lo:=rY L hl;have lp:↑(pT pe)=↑pe:=cy _;have hl':=jt hl;exists _,(ao (aV (eN (dH (pv 0) rfl) D.cN D.Iw (dD D) hr cj (aa (pv 1) aj))) (ay (aN (dX.vj D.Wl (D.T.yu _ D.Wl.m) (LZ D) hr (aa (fQ (dH (pv 0) rfl) D.cN D.Iz (gM D) hr cj) (aa (pv 1) aj))))));exists Y,x,C,d,_,↥sh,rfl,L.hx,D.aS.cl,D.gC,rfl,sh,dS,Y,L.W.hx,rfl,Y,S,sh,dS,st,op,pT pe,ops,(si:Int),rfl,L.W,⟨Q,Q⟩;refine⟨Y,x,C,d,_,↥sh,rfl,L.hx,D.aS.cl,D.gC,rfl,sh,dS,Y,L.W.hx,rfl,S,sh,dS,st,op,pT pe,ops,rfl,L.W,⟨Q,Q⟩,λrws el q H1 Xj s1=>?_⟩;rw[hl']at el;cases el;exact⟨Y,q,af,(si:Int),f,rfl,Xj.at_,Q,B.es,B.sd,B.rk,Q,Q,B.wt,λH2 s2=>k H2 (s1.trans s2)⟩
class inductive Px
 | mk (r:Addr) (x:Int) (_:vs=[↥r,.int x]) (_:H r=⇑(.lst [])) (_:Q (.int 0) H)
theorem fF:aH ["holes","start","low","high","middle"] ["holes","start"] (aB kO):=fc
theorem vJ:‹(1,64,["holes","start"],Px)›:=λD=>by
 specialize fH D.aak.F fF;let⟨r,x,rfl,h1,k⟩:=h;exists _,(ao (aW (i:=2) fF.nd aC) (ao (aW (i:=3) fF.nd (ef D.T.dP (pv 0))) (ao (uN PassesOwn.never (br mS (pv 2) (pv 3) (bx _)) (ao (aW (i:=4) fF.nd (bJ zy (bJ eU (pv 2) (pv 3)) aC)) (ay (bS (br BF (bI dh (bI bw (pv 0) (pv 4)) aC) (pv 1) (bx _)) (ay (aW (i:=3) fF.nd (pv 4))) (ay (aW (i:=2) fF.nd (bJ eU (pv 4) aC))))))) (ay (aN (pv 2))))));exists Y,r,Y,.inl (bC.of h1);exists λm σ H2=>σ=[⇑↥r,⇑(.int x),⇑(.int 0),⇑(.int 0),none]/\H2=H,⟨0,V⟩;rintro m σ H2 ⟨rfl,rfl⟩;exact⟨Y,Y,Z,Y,cT (λc=>absurd c (by decide)) (λ_=>⟨Y,k⟩)⟩
class inductive Mx
 | mk (r:Addr) (x:Int) (_:vs=[↥r,.int x]) (_:H r=⇑(.lst [])) (_:Q (.bl false) H)
theorem Gf:aH ["holes","address","hole"] ["holes","address"] (aB C5):=fc
theorem My:‹(2,65,["holes","address"],Mx)›:=λD=>by
 specialize fH D.aal.F Gf;let⟨r,x,rfl,h1,k⟩:=h;exists _,(ao (aW (i:=2) Gf.nd (aI D.aak (vJ D) hr (aa (pv 0) (aa (pv 1) aj)))) (ay (aN (ng (gW mS (pv 2) (ef D.T.dP (pv 0)) (bx _)) (oK (gW gy (bI dh (bI bw (pv 0) (pv 2)) aC) (pv 1) (bx _)))))));exact⟨Y,Y,r,x,rfl,h1,Y,Y,r,Y,.inl (bC.of h1),Z,Y,cT (λc=>absurd c (by decide)) (λ_=>k)⟩
class inductive Py(CB:Addr)
 | mk (x d t:Addr) (a:Int) (_:vs=[↥x,.int a]) (_:Bl CB H x d t) (_:H t=⇑(.lst [])) (_:Q (.bl false) H)
theorem Bg:aH ["self","address"] ["self","address"] (aB pC):=fc
theorem As:‹(3,66,["self","address"],(Py CB))›:=λD=>by
 specialize fH D.aam.F Bg;let⟨x,d,t,a,rfl,hx,h1,k⟩:=h;exists _,(ay (aN (aI D.aal (My D) hr (aa (dH (pv 0) rfl) (aa (pv 1) aj)))));exact⟨Y,x,CB,d,_,↥t,rfl,hx,D.uv.cl,D.uY,rfl,Y,t,a,rfl,h1,k⟩
class inductive Mz(C:Addr)
 | mk (S:Addr->Prop) (x d s o p:Addr) (n:Nat) (aL:iF) (a:Int) (_:vs=[↥x,.int a]) (_:We C S H x d s o p n aL) (_:0<=a) (_:a<(↑aL:Nat)) (_:Q .fV H)
class inductive Pz(C:Addr)
 | mk (S:Addr->Prop) (x d s o p:Addr) (n:Nat) (aL:iF) (j:Nat) (q:Int × Nat) (_:vs=[↥x,.int (j:Nat)]) (_:We C S H x d s o p n aL) (_:aL[j]?=⇑q) (_:Q (yU q.2) H)
theorem rA:aH ["self","address"] ["self","address"] (aB iX):=fc
theorem Gg:aH ["self","address"] ["self","address"] (aB t9):=fc
theorem qw:‹(2,67,["self","address"],(Mz CW))›:=λD=>by
 specialize fH D.aan.F rA;let⟨S,x,d,s,o,p,n,aL,a,rfl,W,a0,a1,k⟩:=h;exists _,(ay (bS (gg (uO gy mS aC (pv 1) (fQ (pv 0) D.jc D.LP (jK D) hr cj))) (ay lN) bG));refine⟨Y,Z,Y,cT (λc0=>?_) (λc0=>absurd (decide_eq_true a0) c0)⟩;exists Y,x,d,Y,W.hx,rfl,x,d,s,o,p,aL,rfl,W.hx,W.hs,Z,Y;rw[decide_eq_true a1];exact dM k
theorem DQ:‹(3,68,["self","address"],(Pz CW))›:=λD=>by
 specialize fH D.aao.F Gg;let⟨S,x,d,s,o,p,n,aL,j,q,rfl,W,eq,k⟩:=h;have jl:=(List.getElem?_eq_some_iff.mp eq).1;exists _,(ao (aV (eN (pv 0) D.jc D.aan (qw D) hr cj (aa (pv 1) aj))) (ay (aN (bI bw (dH (pv 0) rfl) (pv 1)))));exists Y,x,d,Y,W.hx,rfl,Y,S,x,d,s,o,p,n,aL,(j:Nat),rfl,W,Q,Q;exact⟨Y,x,CW,d,_,↥s,rfl,W.hx,D.jc.cl,D.ug,rfl,Y,s,K,V,bC.of W.hs,(dF (by unfold Pb;rw[gf,eq];rfl):_=⇑(yU q.2)),k⟩
def DR(aL:iF)(a:Int):Nat:=((aL[a.toNat]?).map Prod.snd).getD 0
class inductive PB(C CS CW CB:Addr)
 | mk (U:Addr->Prop) (x r:Addr) (pe:iG) (aF:iH) (aL:iF) (nW:Nat) (row:Row) (v:V) (_:vs=[↥x,↥r,v]) (_:vW C CS CW CB U H x pe aF aL nW []) (_:cB H r row) (_:(∀ p∈row,p.1<=p.2)) (_:↑(bz row)<=100000) (_:(∀ a∈bz row,0<=a/\a<(↑aL:Nat))) (_:∀ H',aJ H H'->Q (.str (fk ((bz row).map (DR aL)))) H')
class inductive PD(C CS CW CB:Addr)
 | mk (U:Addr->Prop) (x:Addr) (pe:iG) (aF:iH) (aL:iF) (nW:Nat) (af:cD) (s:Int) (sh:Int->List Int) (_:vs=[↥x,.int s]) (_:vW C CS CW CB U H x pe aF aL nW []) (_:pe.getLast?=⇑af) (_:↑pe<=900) (_:↑af<=50) (_:y9 ↑af s) (_:Seen af sh) (_:↑(sh s)<=200) (_:∀ a∈sh s,0<=a/\a<(↑aL:Nat)) (_:∀ H',aJ H H'->Q (.str (fk ((sh s).map (DR aL)))) H')
theorem xJ:aH ["self","row","veil"] ["self","row","veil"] (aB je):=fc
theorem Au:aH ["self","sheet"] ["self","sheet"] (aB ny):=fc
theorem vK:‹(4,69,["self","row","veil"],(PB C CS CW CB))›:=λD=>by
 refine fH D.aap.F xJ λcJ A zn s0 H vs Q E hr h=>?_;let⟨U,x,r,pe,aF,aL,nW,row,v,rfl,LB,hr1,ok,ls,ia,k⟩:=h;let⟨S,SW,d,wl,sh,bl,kn,du,bk,dS,st,op,dw,sg,ow,pw,db,tb,ops,LU⟩:=id LB;refine⟨_,(ay (aN (dI PySem.F.plainAttrs_str PySem.F.slot_str_join PySem.F.type_str_join zR bP (aa (gI (N:=["address","self","veil"]) (mq (sc:=aB je) (NX:=["self","row","veil"]) (jx:=[none,some 0,some 2]) rfl rfl rfl nofun nofun rfl nofun rfl nofun) rfl (cz (aI D.dq9 (Dr D) hr (aa (pv 1) aj))) (λ_ _ _ _ _ _=>(bW (i:=0) (show List.Nodup (["address","self","veil"]:List Str) by decide +kernel))) (λ_ _ _ _ _ _=>gX) (λ_ _ _ _ _ _=>(EG (fN (eN (J6 (pv 1) rfl) D.uv D.aam (As D) hr cj (aa (pv 0) aj))) (pv 2) (eN (J6 (pv 1) rfl) D.jc D.aao (DQ D) hr cj (aa (pv 0) aj))))) aj)))),?_⟩;refine⟨rfl,Y,r,row,rfl,hr1,ok,Q,λn H1 hn s1 fn=>?_⟩;refine⟨n,rfl,⟨_,bC.of hn⟩,λacc cK=>gD (K:=K) (a:=n) (xs:=(bz row).map V.int) (λi σ H2=>∃ u:Option V,σ=[u,⇑↥x,⇑v]/\H2 acc=⇑(.lst ((((bz row).take i).map (DR aL)).map yU))/\aJ H1 H2) ⟨none,rfl,ah,au cK _⟩ (by rintro i σ H2 _ ⟨_,_,_,s2⟩;exact bC.of (s2 _ _ hn)) ?_ ?_⟩
 ·rintro i y σ H2 hi ⟨u,rfl,h2,s2⟩;rw[gf]at hi;let⟨a,ei,rfl⟩:=Option.map_eq_some_iff.mp hi;have il:=(List.getElem?_eq_some_iff.mp ei).1;let⟨a0,a1⟩:=ia a (oA ei);have Ku:=LU.same (s1.trans s2);obtain⟨q,eq⟩:∃ q,aL[a.toNat]?=⇑q:=⟨_,qB ∅⟩;let⟨ts,ht,pt⟩:=id Ku.R;cases pt;have ea:DR aL a=q.2:=by unfold DR;rw[eq];rfl
  exists Y,x,C,d,_,↥bl,rfl,Ku.L.hx,D.aS.cl,D.zx,rfl,bl,db,Y,Ku.B,rfl,Y,bl,db,tb,a,rfl,Ku.B,ht;refine⟨Y,dM ⟨Y,x,C,d,_,↥wl,rfl,Ku.L.hx,D.aS.cl,D.xV,rfl,wl,dw,Y,Ku.W.hx,rfl,Y,SW,wl,dw,sg,ow,pw,nW,aL,a.toNat,q,by rw[show ((a.toNat:Nat):Int)=a by lia];rfl,Ku.W,eq,?_⟩⟩;refine⟨_,h2,aQ (by rw[cy,cy,gO];lia),Y,?_,bQ cK s2 (aK acc _ _)⟩;rw[ah,take_snoc ei,gU,gU,← ea];rfl
 ·rintro σ H2 ⟨u,rfl,h2,s2⟩;rw[cy,gP]at h2;exact⟨acc,Y,rfl,h2,by rw[cy];lia,k H2 (s1.trans s2)⟩
theorem yI:‹(6,70,["self","sheet"],(PD C CS CW CB))›:=λD=>by
 let⟨Tc,Td⟩:=D.G.h;refine fH D.aaq.F Au λcJ A zn s0 H vs Q E hr h=>?_;let⟨U,x,pe,aF,aL,nW,af,s,f0,rfl,LB,hl,l2,l1,ia,sn,ls,hin,k⟩:=h;let⟨S,SW,d,wl,sh,bl,kn,du,bk,dS,st,op,dw,sg,ow,pw,db,tb,ops,LU⟩:=id LB;exists _,(ay (aN (eN (pv 0) D.aS D.aap (vK D) hr cj (aa (eN (pv 0) D.aS D.OE (iQ D) hr cj (aa (pv 1) aj)) (aa (CL (v:=.str "#") rfl Td ⟨Tc,rfl⟩) aj)))));refine⟨Y,x,d,Y,LU.L.hx,rfl,Y,x,d,Y,LU.L.hx,rfl,Y,S,x,d,wl,sh,bl,kn,du,bk,dS,st,op,pe,ops,aF,af,s,rfl,LU.L,hl,l1,l2,ia,⟨f0,sn,λo H1 ho s1 fo=>?_⟩⟩;exact⟨U,x,o,pe,aF,aL,nW,d9 (f0 s),Y,LB.same s1,ho,qQ _,by rw[fZ];lia,by rw[fZ];exact hin,by rw[fZ];exact λH2 s2=>k H2 (s1.trans s2)⟩
class inductive MA(C CS:Addr)
 | mk (S:Addr->Prop) (x d wl sh bl kn du bk dS st op:Addr) (pe:iG) (ops:List Int) (aF:iH) (af:cD) (s:Int) (f:Int->List Int) (_:vs=[↥x,.int s]) (_:fK C CS S H x d wl sh bl kn du bk dS st op (pT pe) ops aF) (_:pe.getLast?=⇑af) (_:↑af<=50) (_:↑pe<=900) (_:y9 ↑af s) (_:Seen af f) (_:↑(f s)<=200) (_:∀ H',aJ H H'->Q (.int (↑(f s):Nat)) H')
theorem Av:aH ["self","sheet"] ["self","sheet"] (aB nA):=fc
theorem yJ:‹(6,71,["self","sheet"],(MA C CS))›:=λD=>by
 specialize fH D.aar.F Av;let⟨S,x,d,wl,sh,bl,kn,du,bk,dS,st,op,pe,ops,aF,af,s,f0,rfl,L,hl,l1,l2,ia,sn,lf,k⟩:=h;exists _,(ay (aN (dX.vj D.Wh (D.T.nI _ D.Wh.m) (Dq D) hr (aa (eN (pv 0) D.aS D.OE (iQ D) hr cj (aa (pv 1) aj)) aj))));refine⟨Y,x,d,Y,L.hx,rfl,Y,S,x,d,wl,sh,bl,kn,du,bk,dS,st,op,pe,ops,aF,af,s,rfl,L,hl,l1,l2,ia,⟨f0,sn,λo H1 ho s1 _=>⟨o,Y,ho,?_,λH2 s2=>?_⟩⟩⟩
 ·have:=rV (f0 s);lia
 ·rw[CC];exact k H2 (s1.trans s2)
def PF{z:Str}{i:Int}{n:Nat}(hn:↑z=n)(h0:0<=i)(h1:i<n):∃ c,qF z.cps.toList i=⇑c:=by
 have hl:i.toNat<↑z.cps.toList:=by
  have:↑z.cps.toList=↑z:=by show _=z.cps.size;simp
  lia
 exists z.cps.toList[i.toNat];have e:qF z.cps.toList ((i.toNat:Nat):Int)=⇑z.cps.toList[i.toNat]:=dF (by simp);rw[Int.toNat_of_nonneg h0]at e;exact e
class inductive Te
 | mk (l c:Addr) (b:Bool) (_:vs=[↥l,.bl b]) (_:dJ H l c) (_: ∀ (ch:Nat) (H':Hp),dJ H' l c->(∀ a,a≠l->H' a=H a)->Q (yU ch) H')
class inductive Tf
 | mk (l c:Addr) (m:Nat) (_:vs=[↥l,.int (m:Nat)]) (_:dJ H l c) (_:m<=1000) (_: ∀ (cs:List Nat) (H':Hp),↑cs=m->dJ H' l c->cL l H H'->Q (.str (fk cs)) H')
theorem yh:aH ["_law_src_here","_law_few","_law_some"] ["_law_src_here","_law_few"] (aB ua):=fc
theorem yi:aH ["_law_src_here","_law_many","_law_few"] ["_law_src_here","_law_many"] (aB pD):=fc
theorem Gh:‹(2,72,["_law_src_here","_law_few"],Te)›:=λD=>by
 specialize fH D.aas.F yh;let⟨l,c,b,rfl,S,k⟩:=h;refine⟨_,(ao (aW (i:=2) yh.nd bP) (ao (bS (lO (pv 1) (λ_=>rfl)) (ay (aN (bI Nn bP (aI D.AR (fB D) hr (aa (pv 0) (aa aC aj)))))) bG) (ay (aN (bI Nn (pv 2) (aI D.AR (fB D) hr (aa (pv 0) (aa aC aj)))))))),?_⟩;refine⟨Y,b,rfl,cT (λ_=>?_) (λ_=>?_)⟩
 ·refine⟨Y,l,c,4,rfl,S,E,E,λv H1 a0 a1 S1 k1=>?_⟩;let⟨ch,e⟩:=PF (z:=Str.ofString "a# b") (n:=4) nofun a0 a1;exact⟨P,ch,V,nofun,e,k ch H1 S1 k1⟩
 ·refine⟨Y,Y,l,c,94,rfl,S,E,E,λv H1 a0 a1 S1 k1=>?_⟩;let⟨ch,e⟩:=PF (z:=Str.ofString " !\"#$&'()*+,-./0123456789:;<=>?@ABCDEFGHIJKLMNOPQRSTUVWXYZ[\\]^_`abcdefghijklmnopqrstuvwxyz{|}~") (n:=94) nofun a0 a1;exact⟨P,ch,V,nofun,e,k ch H1 S1 k1⟩
theorem Gi:‹(3,73,["_law_src_here","_law_many"],Tf)›:=λD=>by
 specialize fH D.aat.F yi;let⟨l,c,m,rfl,S,hm,k⟩:=h;refine⟨_,(ao (aW (i:=2) yi.nd (gW gn (aI D.AR (fB D) hr (aa (pv 0) (aa aC aj))) aC (bx _))) (ay (aN (dI PySem.F.plainAttrs_str PySem.F.slot_str_join PySem.F.type_str_join zR bP (aa (gI (N:=["_law_k","_law_src_here","_law_few"]) (mq (sc:=aB pD) (NX:=["_law_src_here","_law_many","_law_few"]) (jx:=[none,some 0,some 2]) rfl rfl rfl nofun nofun rfl nofun rfl nofun) rfl (gK rfl D.T.iN (aa (pv 1) aj)) (λ_ _ _ _ _ _=>(bW (i:=0) (show List.Nodup (["_law_k","_law_src_here","_law_few"]:List Str) by decide +kernel))) (λ_ _ _ _ _ _=>gX) (λ_ _ _ _ _ _=>(aI D.aas (Gh D) hr (aa (pv 1) (aa (pv 2) aj))))) aj))))),?_⟩;refine⟨Y,l,c,2,rfl,S,E,E,λv H1 _ _ S1 k1=>⟨rfl,?_⟩⟩;have K1:cL l H H1:=λb o e m=>(k1 b m).trans e;refine⟨rfl,Y,(m:Nat),rfl,Q,Q,λacc cK=>qS (lo:=0) (k:=((m:Nat):Int).toNat) (λi σ H2=>∃ (u:Option V) (cs:List Nat),σ=[u,⇑↥l,⇑(.bl (decide (V.int v=V.int 0)))]/\H2 acc=⇑(.lst (cs.map yU))/\↑cs=i/\dJ H2 l c/\cL l H H2) ⟨none,[],rfl,ah,rfl,S1.same (au cK _),λb o e m=>au cK _ _ _ (K1 _ _ e m)⟩ ?_ ?_⟩
 ·rintro i σ H2 hi ⟨u,cs,rfl,ha,hl,S2,K2⟩;have na:acc≠l:=(S1.ne cK).1.symm;have nc:acc≠c:=(S1.ne cK).2.symm;refine⟨Y,Y,l,c,Y,S2,λch H3 S3 k3=>⟨_,by rw[k3 acc na];exact ha,(by rw[cy];exact aQ ∅),_,cs++[ch],rfl,?_,?_,?_,?_⟩⟩
  ·rw[ah,gU];rfl
  ·rw[cX,hl];rfl
  ·exact S3.keep (aK acc _ _) na.symm nc.symm
  ·intro b o e m;by_cases z:b=acc
   ·rw[z]at e;have:=iL K1 na cK;rw[this]at e;cases e
   rw[aG z,k3 b m];exact K2 _ _ e m
 ·rintro σ H2 ⟨u,cs,rfl,ha,hl,S2,K2⟩;have hl':↑cs=m:=by lia
  exact⟨acc,cs,V,ha,Q,k cs H2 hl' S2 K2⟩
def DS{α β:Type}{F:α->β->Prop}{xs:List α}{ys:List β}{x:α}{y:β}(h:Paired F xs ys)(e:F x y):Paired F (xs++[x]) (ys++[y]):=by
 induction h with
 | nil=>exact .cons e .nil
 | cons r _ ih=>exact .cons r ih
def Bh{α β:Type}{F:α->β->Prop}{xs xs':List α}{ys ys':List β}(h:Paired F xs ys)(t:Paired F xs' ys'):Paired F (xs++xs') (ys++ys'):=by
 induction h with
 | nil=>exact t
 | cons e _ ih=>exact .cons e ih
def Kv(H:Hp)(a:Addr)(q:Int × Nat):Prop:=H a=⇑(.tup [.int q.1,yU q.2])
inductive DT(H:Hp)(v:Addr)(aL:iF):Prop
 | mk (as:List Addr) (_:H v=⇑(.lst (as.map V.ref))) (_:Paired (Kv H) as aL)
abbrev kI:eY:=.inr (Str.ofString "ink")
abbrev kR:eY:=.inr (Str.ofString "rows")
abbrev kP:eY:=.inr (Str.ofString "past")
abbrev kVl:eY:=.inr (Str.ofString "veil")
abbrev tG(ik rw ps vl:Addr):List (eY × V):=[(kI,↥ik),(kR,↥rw),(kP,↥ps),(kVl,↥vl)]
def Uz(W:Addr->Prop)(ik ps:Addr)(H:Hp)(v:V)(es:List Int):Prop:=∃ b,v=↥b/\W b/\b≠ik/\b≠ps/\H b=⇑(.lst (es.map V.int))
def MV(W:Addr->Prop)(ik ps:Addr)(H:Hp)(a:Addr)(af:cD):Prop:=W a/\a≠ik/\a≠ps/\∃ vs,H a=⇑(.lst vs)/\bV (Uz W ik ps H) vs af
structure Bj(W:Addr->Prop)(H:Hp)(w ik rw ps vl:Addr)(aL:iF)(pe:iG)(af:cD):Prop where
 ww:W w
 wi:W ik
 wp:W ps
 wv:W vl
 al:∀ a,W a->∃ ob,H a=⇑ob
 hw:H w=⇑(.dK (tG ik rw ps vl))
 hi:DT H ik aL
 hr:MV W ik ps H rw af
 hp:∃ vs,H ps=⇑(.lst vs)/\bV (λv rs=>∃ a,v=↥a/\MV W ik ps H a rs) vs pe
 ne:ik≠ps
 lst:pe.getLast?=⇑af
 hv:H vl=⇑(.lst [])
 nv:vl≠ik/\vl≠ps
def Wo(W:Addr->Prop)(H:Hp)(w:Addr)(aL:iF)(pe:iG)(af:cD):Prop:=∃ ik rw ps vl,Bj W H w ik rw ps vl aL pe af
theorem Uz.fr{W W':Addr->Prop}{H H':Hp}{v:V}{es:List Int}(s:∀ a,W a->W' a)(k:∀ a xs,H a=⇑(.lst xs)->W a->a≠ik->a≠ps->H' a=⇑(.lst xs)):Uz W ik ps H v es->Uz W' ik ps H' v es:=λ⟨b,e,w,n1,n2,h⟩=>⟨b,e,s _ w,n1,n2,k _ _ h w n1 n2⟩
theorem MV.fr{W W':Addr->Prop}{H H':Hp}{a:Addr}{af:cD}(s:∀ a,W a->W' a)(k:∀ a xs,H a=⇑(.lst xs)->W a->a≠ik->a≠ps->H' a=⇑(.lst xs)):MV W ik ps H a af->MV W' ik ps H' a af:=λ⟨w,n1,n2,vs,h,al⟩=>⟨s _ w,n1,n2,vs,k _ _ h w n1 n2,al.mono λ_ _=>Uz.fr s k⟩
def DT.two{H H':Hp}{v:Addr}{aL:iF}(h:DT H v aL)(k:∀ xs,H v=⇑(.lst xs)->H' v=⇑(.lst xs))(t:∀ a xs,H a=⇑(.tup xs)->H' a=⇑(.tup xs)):DT H' v aL:=by
 let⟨as,hv,pa⟩:=h;exact⟨as,k _ hv,Paired.Hj pa λa q e=>t _ _ e⟩
def Bj.fr{W:Addr->Prop}{H H':Hp}{w rw:Addr}{aL:iF}{pe:iG}{af:cD}(h:Bj W H w ik rw ps vl aL pe af)(k:∀ a ob,H a=⇑ob->W a->H' a=⇑ob)(t:∀ a xs,H a=⇑(.tup xs)->H' a=⇑(.tup xs)):Bj W H' w ik rw ps vl aL pe af:=by
 let⟨ww,wi,wp,wv,al,hw,hi,hr,⟨vs,hp,a2⟩,ne,lst,hv,nv⟩:=h;refine⟨ww,wi,wp,wv,λa z=>?_,k _ _ hw ww,hi.two (λxs e=>k _ _ e wi) t,hr.fr (λ_ z=>z) (λa xs e z _ _=>k _ _ e z),⟨vs,k _ _ hp wp,a2.mono λv rs ⟨a,e,z⟩=>⟨a,e,z.fr (λ_ y=>y) (λa xs e y _ _=>k _ _ e y)⟩⟩,ne,lst,k _ _ hv wv,nv⟩;let⟨ob,e⟩:=al a z;exact⟨ob,k _ _ e z⟩
def Wo.fr{W:Addr->Prop}{H H':Hp}{w:Addr}{aL:iF}{pe:iG}{af:cD}(h:Wo W H w aL pe af)(k:∀ a ob,H a=⇑ob->W a->H' a=⇑ob)(t:∀ a xs,H a=⇑(.tup xs)->H' a=⇑(.tup xs)):Wo W H' w aL pe af:=by
 let⟨ik,rw,ps,vl,z⟩:=h;exact⟨ik,rw,ps,vl,z.fr k t⟩
theorem Wo.same{W:Addr->Prop}{H H':Hp}{w:Addr}{aL:iF}{pe:iG}{af:cD}(h:Wo W H w aL pe af)(s:aJ H H'):Wo W H' w aL pe af:=h.fr (λa ob e _=>s a ob e) λa xs e=>s _ _ e
def Kw:Sp:=λvs H Q _=>vs=[]/\∀ (W:Addr->Prop) (w:Addr) (H':Hp),Wo W H' w [] [[]] []->(∀ a,W a->H a=none)->aJ H H'->Q ↥w H'
theorem DU:aH [] [] (aB mW):=fc
theorem abm{X:Cx}{s1 s2 s3 s4:Str}{a1 a2 a3 a4:Nat}{p1 p2 p3 p4 pos:Pos}{v1 v2 v3 v4:Expr}{t1 t2 t3 t4:TE}(h1:PE X v1 t1)(h2:PE X v2 t2)(h3:PE X v3 t3)(h4:PE X v4 t4) :
  PE X (.Dict [⇑(.Constant (.str s1) a1 p1),⇑(.Constant (.str s2) a2 p2),⇑(.Constant (.str s3) a3 p3),⇑(.Constant (.str s4) a4 p4)] [v1,v2,v3,v4] pos) (Od [(tC (.str s1),t1),(tC (.str s2),t2),(tC (.str s3),t3),(tC (.str s4),t4)]) :=
 Ru (vd bP h1 (vd bP h2 (vd bP h3 (vd bP h4 Rt)))) rfl rfl (by simp) (by show 4<=15;decide)
abbrev tWo:TE:=Od [(tC (.str "ink"),K6 zm),(tC (.str "rows"),K6 zm),(tC (.str "past"),K6 (Nf (K6 zm) zm)),(tC (.str "veil"),K6 zm)]
theorem PK:∃ (e:Expr) (p:Pos),iJ mW=[.Return (⇑e) p]/\∀ X:Cx,PE X e tWo :=
 ⟨P,rfl,λX=>@abm X _ _ _ _ _ _ _ _ _ _ _ _ _ _ _ _ _ _ _ _ _ (bO aj) (bO aj) (bO (aa (bO aj) aj)) (bO aj)⟩
theorem DV:‹(1,74,[],Kw)›:=λD=>by
 specialize fH D.RZ.F DU;let⟨rfl,k⟩:=h;let⟨e,p,he,pw⟩:=PK;rw[he];exists _,ay (aN (pw _));intro w hw;refine⟨iZ,λik Et=>⟨iZ,λrw hrw=>⟨iZ,λz hz=>⟨jY,λps Kx=>⟨iZ,λvl Tg=>?_⟩⟩⟩⟩⟩;have s0:=au hw (.dK []);have w0:(aM H w (.dK [])) w=⇑(.dK []):=ah;generalize aM H w (.dK [])=H0 at s0 w0 Et hrw hz Kx Tg;have s1:=au Et (.lst []);have i1:(aM H0 ik (.lst [])) ik=⇑(.lst []):=ah;generalize aM H0 ik (.lst [])=H1 at s1 i1 hrw hz Kx Tg;have s2:=au hrw (.lst []);have r2:(aM H1 rw (.lst [])) rw=⇑(.lst []):=ah;generalize aM H1 rw (.lst [])=H2 at s2 r2 hz Kx Tg;have s3:=au hz (.lst []);have z3:(aM H2 z (.lst [])) z=⇑(.lst []):=ah;generalize aM H2 z (.lst [])=H3 at s3 z3 Kx Tg;have s4:=au Kx (.lst [↥z]);have p4:(aM H3 ps (.lst [↥z])) ps=⇑(.lst [↥z]):=ah;generalize aM H3 ps (.lst [↥z])=H4 at s4 p4 Tg;have s5:=au Tg (.lst []);have v5:(aM H4 vl (.lst [])) vl=⇑(.lst []):=ah;generalize aM H4 vl (.lst [])=H5 at s5 v5;have Xr:aJ H1 H5:=s2.trans (s3.trans (s4.trans s5));have s05:aJ H0 H5:=s1.trans Xr;have w5:=s05 _ _ w0;have i5:=Xr _ _ i1;have r5:=(s3.trans (s4.trans s5)) _ _ r2;have z5:=(s4.trans s5) _ _ z3;have p5:=s5 _ _ p4;have nl:∀ {a:Addr} {xs:List V},H5 a=⇑(.lst xs)->a≠w:=λ{a xs} e q=>by rw[q,w5]at e;cases e
 have n1:rw≠ik:=(az i1 hrw).symm;have n2:rw≠ps:=az (s3 _ _ r2) Kx;have n3:z≠ik:=(az (s2 _ _ i1) hz).symm;have n4:z≠ps:=az z3 Kx;have n5:ik≠ps:=az ((s2.trans s3) _ _ i1) Kx;refine⟨w5,tG ik rw ps vl,rfl,(by show 4<=15;decide),?_⟩;rw[show wK [] (tG ik rw ps vl)=tG ik rw ps vl by kernel_rfl];have up:∀ {a:Addr} {xs:List V},H5 a=⇑(.lst xs)->(aM H5 w (.dK (tG ik rw ps vl))) a=⇑(.lst xs):=λ{a xs} e=>by rw[aG (nl e)];exact e
 have f0:∀ a,H0 a=none->H a=none:=λa e=>aU s0 e;refine k (λa=>a=w\/a=ik\/a=rw\/a=z\/a=ps\/a=vl) w _ ⟨ik,rw,ps,vl,.inl rfl,.inr (.inl rfl),.inr (.inr (.inr (.inr (.inl rfl)))),.inr (.inr (.inr (.inr (.inr rfl)))),λa e=>?_,ah,⟨[],up i5,.nil⟩,⟨.inr (.inr (.inl rfl)),n1,n2,[],up r5,.nil⟩,⟨[↥z],up p5,.cons ⟨z,rfl,.inr (.inr (.inr (.inl rfl))),n3,n4,[],up z5,.nil⟩ .nil⟩,n5,rfl,up v5,(az ((s2.trans (s3.trans s4)) _ _ i1) Tg).symm,(az p4 Tg).symm⟩ (λa e=>?_) (bQ hw (s0.trans s05) (aK w _ _))
 ·rcases e with rfl|rfl|rfl|rfl|rfl|rfl
  ·exact⟨_,ah⟩
  ·exact⟨_,up i5⟩
  ·exact⟨_,up r5⟩
  ·exact⟨_,up z5⟩
  ·exact⟨_,up p5⟩
  ·exact⟨_,up v5⟩
 ·rcases e with rfl|rfl|rfl|rfl|rfl|rfl
  ·exact hw
  ·exact f0 _ Et
  ·exact f0 _ (aU s1 hrw)
  ·exact f0 _ (aU s1 (aU s2 hz))
  ·exact f0 _ (aU s1 (aU s2 (aU s3 Kx)))
  ·exact f0 _ (aU s1 (aU s2 (aU s3 (aU s4 Tg))))
class inductive PL
 | mk (W:Addr->Prop) (w r:Addr) (aL:iF) (pe:iG) (af rows':cD) (_:vs=[↥w,↥r]) (_:Wo W H w aL pe af) (_:↑pe<=1000) (_:(∀ ik ps,(∃ rw vl,H w=⇑(.dK (tG ik rw ps vl)))->MV W ik ps H r rows')) (_: ∀ (H':Hp),Wo W H' w aL (pe++[rows']) rows'->(∀ a ob,H a=⇑ob->¬ W a->H' a=⇑ob)->(∀ a xs,H a=⇑(.tup xs)->H' a=⇑(.tup xs))->(∀ ik rw ps vl,H w=⇑(.dK (tG ik rw ps vl))->∀ a xs,H a=⇑(.lst xs)->a≠ps->H' a=⇑(.lst xs))->Q .fV H')
theorem Gj:aH ["_law_world_here","_law_rows"] ["_law_world_here","_law_rows"] (aB uc):=fc
theorem kC:‹(1,75,["_law_world_here","_law_rows"],PL)›:=λD=>by
 specialize fH D.LQ.F Gj;let⟨W,w,r,aL,pe,af,rows',rfl,⟨ik,rw,ps,vl,h⟩,lp,hr',k⟩:=h;have hu:=gF hr;exists _,(ao (vc hu (pv 0) bP (pv 1) rfl) (ay (aV (dI qm jQ jR bT (gJ hu (pv 0) bP) (aa (pv 1) aj)))));have Kg:=hr' ik ps ⟨rw,vl,h.hw⟩;refine⟨Y,Y,w,Y,Dg.k (k:=kR) h.hw (by show 4<sizeLine;decide),?_⟩;rw[show eE (tG ik rw ps vl) kR ↥r=tG ik r ps vl by kernel_rfl];let⟨UA,hp,al⟩:=h.hp;have k1:=aK w H (.dK (tG ik r ps vl));have w1:(aM H w (.dK (tG ik r ps vl))) w=⇑(.dK (tG ik r ps vl)):=ah;have nw:∀ {a:Addr} {o:HO},H a=⇑o->(∀ kvs,o≠.dK kvs)->a≠w:=λ{a o} e n q=>by rw[q,h.hw]at e;cases e;exact n _ rfl
 generalize aM H w (.dK (tG ik r ps vl))=H1 at k1 w1;have Yd:=k1 _ _ hp (nw hp (λ_ z=>by cases z));have z:=jw.k (k:=kP) w1;rw[show cC (tG ik r ps vl) kP=⇑↥ps by kernel_rfl]at z;have lpv:UA.length=↑pe:=al.len;refine⟨Y,w,Y,z,.inl ⟨rfl,_,bC.of Yd⟩,Y,ps,Z,Yd,aQ ∅,?_⟩;have nps:w≠ps:=(nw hp (λ_ z=>by cases z)).symm
 have ls:∀ a xs,H a=⇑(.lst xs)->a≠ps->(aM H1 ps (.lst (UA++[↥r]))) a=⇑(.lst xs):=λa xs e n=>by
  rw[aG n];exact k1 _ _ e (nw e (λ_ z=>by cases z))
 have tp:∀ a xs,H a=⇑(.tup xs)->(aM H1 ps (.lst (UA++[↥r]))) a=⇑(.tup xs):=λa xs e=>by
  rw[aG (cY e hp)];exact k1 _ _ e (nw e (λ_ z=>by cases z))
 have rwf:∀ {a:Addr} {rs:cD},MV W ik ps H a rs->MV W ik ps (aM H1 ps (.lst (UA++[↥r]))) a rs:=λ{a rs} q=>q.fr (λ_ y=>y) λa xs e _ _ n=>ls a xs e n;have G5:=rwf Kg
 refine k _ ⟨ik,r,ps,vl,h.ww,h.wi,h.wp,h.wv,λa wa=>?_,?_,h.hi.two (λxs e=>ls _ _ e h.ne) tp,G5,⟨_,ah,(al.mono λv rs ⟨a,e,q⟩=>⟨a,e,rwf q⟩).app (.cons ⟨r,rfl,G5⟩ .nil)⟩,h.ne,uK,ls _ _ h.hv h.nv.2,h.nv⟩ (λa ob e n=>?_) tp λik' rw2 vU vl' ee a xs e n=>ls a xs e (by
  rw[h.hw]at ee;simp only[Option.some.injEq,HO.dK.injEq,tG,List.cons.injEq,Prod.mk.injEq,V.ref.injEq,true_and,and_true]at ee;rw[ee.2.2.1]
  exact n)
 ·by_cases e1:a=ps
  ·rw[e1];exact⟨_,ah⟩
  rw[aG e1];by_cases e2:a=w
  ·rw[e2];exact⟨_,w1⟩
  ·let⟨ob,e⟩:=h.al a wa;exact⟨ob,k1 _ _ e e2⟩
 ·rw[aG nps];exact w1
 ·rw[aG (λq=>n (by rw[q];exact h.wp))];exact k1 _ _ e (λq=>n (by rw[q];exact h.ww))
def vW.al{C:Addr}{U:Addr->Prop}{H:Hp}{x:Addr}{pe:iG}{aF:iH}{aL:iF}{nW:Nat}{bZ:Row}(h:vW C CS CW CB U H x pe aF aL nW bZ){a:Addr}(z:U a):∃ ob,H a=⇑ob:=by
 let⟨S,SW,d,wl,sh,bl,kn,du,bk,dS,st,op,dw,sg,ow,pw,db,tb,ops,L,W,B,R,Xk,dj,db',dt,u⟩:=h;let⟨as,hR,_⟩:=R;rcases (u a).mp z with y|y|y|y|y|y
 ·exact L.W.al a y
 ·exact W.al a y
 ·rw[y];exact⟨_,L.hb⟩
 ·rw[y];exact⟨_,L.hx⟩
 ·rw[y];exact⟨_,B⟩
 ·rw[y];exact⟨_,hR⟩
def Wo.al{W:Addr->Prop}{H:Hp}{w:Addr}{aL:iF}{pe:iG}{af:cD}(h:Wo W H w aL pe af){a:Addr}(z:W a):∃ ob,H a=⇑ob:=by
 let⟨ik,rw,ps,vl,y⟩:=h;exact y.al a z
structure qx(C CS CW CB:Addr)(H:Hp)(l c w x:Addr)(U W:Addr->Prop)(pe:iG)(af:cD)(pq:iG)(rq:cD)(aF:iH)(aL:iF)(nW:Nat)(bZ:Row):Prop where
 src:dJ H l c
 MW:vW C CS CW CB U H x pe aF aL nW bZ
 lst:pe.getLast?=⇑af
 wo:Wo W H w aL pq rq
 du:∀ a,U a->¬ W a/\a≠l/\a≠c
 dw:∀ a,W a->a≠l/\a≠c
def Ky(l:Addr)(U W U' W':Addr->Prop)(H H':Hp):Prop:=(∀ a,U' a\/W' a->U a\/W a\/H a=none)/\(∀ a ob,H a=⇑ob->a≠l->¬ U a->¬ W a->H' a=⇑ob)/\∀ a xs,H a=⇑(.tup xs)->H' a=⇑(.tup xs)
def Ky.trans{l:Addr}{U W U1 W1 U2 W2:Addr->Prop}{H H1 H2:Hp}(f:Ky l U W U1 W1 H H1)(hl:∃ ls,H1 l=⇑ls)(g:Ky l U1 W1 U2 W2 H1 H2):Ky l U W U2 W2 H H2:=by
 have key:∀ a,U1 a\/W1 a\/H1 a=none->U a\/W a\/H a=none:=by
  intro a z;rcases z with z|z|z
  ·exact f.1 a (.inl z)
  ·exact f.1 a (.inr z)
  by_cases u:U a
  ·exact .inl u
  by_cases v:W a
  ·exact .inr (.inl v)
  refine .inr (.inr ?_)
  cases ea:H a with
  | none=>rfl
  | some ob =>
   exfalso;by_cases n:a=l
   ·let⟨ls,hl⟩:=hl;rw[n,hl]at z;cases z
   rw[f.2.1 _ _ ea n u v]at z;cases z
 have out:∀ a ob,H a=⇑ob->¬ U a->¬ W a->¬ U1 a/\¬ W1 a:=by
  intro a ob e u v;refine⟨λz=>?_,λz=>?_⟩
  ·rcases f.1 a (.inl z) with y|y|y
   ·exact u y
   ·exact v y
   ·rw[y]at e;cases e
  ·rcases f.1 a (.inr z) with y|y|y
   ·exact u y
   ·exact v y
   ·rw[y]at e;cases e
 exact⟨λa z=>key a (g.1 a z),λa ob e n u v=>g.2.1 _ _ (f.2.1 _ _ e n u v) n (out a ob e u v).1 (out a ob e u v).2,λa xs e=>g.2.2 _ _ (f.2.2 _ _ e)⟩
def qx.mv{C:Addr}{H H':Hp}{l c w x:Addr}{U W:Addr->Prop}{pe:iG}{af:cD}{pq:iG}{rq:cD}{aF:iH}{aL:iF}{nW:Nat}{bZ:Row}(h:qx C CS CW CB H l c w x U W pe af pq rq aF aL nW bZ)(k:cL l H H')(s:dJ H' l c):qx C CS CW CB H' l c w x U W pe af pq rq aF aL nW bZ:=by
 let⟨ls,hl⟩:=h.src.lst;have t:∀ a xs,H a=⇑(.tup xs)->H' a=⇑(.tup xs):=λa xs e=>k _ _ e (cY e hl);exact⟨s,h.MW.fr (λa ob e z=>k _ _ e (h.du a z).2.1) t,h.lst,h.wo.fr (λa ob e z=>k _ _ e (h.dw a z).1) t,h.du,h.dw⟩
theorem qx.same{C:Addr}{H H':Hp}{l c w x:Addr}{U W:Addr->Prop}{pe:iG}{af:cD}{pq:iG}{rq:cD}{aF:iH}{aL:iF}{nW:Nat}{bZ:Row}(h:qx C CS CW CB H l c w x U W pe af pq rq aF aL nW bZ)(s:aJ H H'):qx C CS CW CB H' l c w x U W pe af pq rq aF aL nW bZ:=h.mv (λa o e _=>s a o e) (h.src.same s)
def Gk{α:Type}{xs:List α}{v:Int}(v0:0<=v)(v1:v<↑xs):∃ x∈xs,qF xs v=⇑x:=by
 obtain⟨j,rfl⟩:∃ j:Nat,v=j:=⟨v.toNat,Q⟩;have hj:j<↑xs:=by lia
 exact⟨xs[j],List.getElem_mem hj,dF (qB hj)⟩
def qx.UB{W W':Addr->Prop}{H:Hp}{w rw:Addr}{aL:iF}{pe:iG}{af:cD}(h:Bj W H w ik rw ps vl aL pe af)(s:∀ a,W a->W' a)(al:∀ a,W' a->∃ ob,H a=⇑ob):Bj W' H w ik rw ps vl aL pe af:=by
 let⟨ww,wi,wp,wv,_,hw,hi,hr,⟨vs,hp,a2⟩,ne,lst,hv,nv⟩:=h;exact⟨s _ ww,s _ wi,s _ wp,s _ wv,al,hw,hi,hr.fr s (λa xs e _ _ _=>e),⟨vs,hp,a2.mono λv rs ⟨a,e,z⟩=>⟨a,e,z.fr s (λa xs e _ _ _=>e)⟩⟩,ne,lst,hv,nv⟩
def dJ.fru{U U':Addr->Prop}{H H':Hp}{l c:Addr}(S:dJ H l c)(fr:Pq U U' H H')(nl:¬ U l)(nc:¬ U c):dJ H' l c:=by
 let⟨n,ns,i,d,r,e1,e2,h3⟩:=S;exact⟨n,ns,i,d,r,fr.2.1 _ _ e1 nl,fr.2.1 _ _ e2 nc,h3⟩
def qx.Xs{C:Addr}{H H':Hp}{l c w x:Addr}{U U' W:Addr->Prop}{pe Ga:iG}{af rows':cD}{pq:iG}{rq:cD}{aF dm:iH}{aL:iF}{nW nW':Nat}{bZ UC:Row}(St:qx C CS CW CB H l c w x U W pe af pq rq aF aL nW bZ)(L':vW C CS CW CB U' H' x Ga dm aL nW' UC)(hl:Ga.getLast?=⇑rows')(fr:Pq U U' H H'):qx C CS CW CB H' l c w x U' W Ga rows' pq rq dm aL nW' UC/\Ky l U W U' W H H':=by
 refine⟨⟨St.src.fru fr (λz=>(St.du l z).2.1 rfl) (λz=>(St.du c z).2.2 rfl),L',hl,St.wo.fr (λa ob e z=>fr.2.1 _ _ e (λy=>(St.du a y).1 z)) fr.2.2,λa z=>?_,St.dw⟩,λa z=>z.elim (λz=>(fr.1 a z).elim .inl λy=>.inr (.inr y)) (λz=>.inr (.inl z)),λa ob e _ u _=>fr.2.1 a ob e u,fr.2.2⟩;rcases fr.1 a z with y|y
 ·exact St.du a y
 ·have n:=St.src.ne y;refine⟨λz=>?_,n.1.symm,n.2.symm⟩;let⟨ob,e⟩:=St.wo.al z;rw[y]at e;cases e
def qx.kept{C:Addr}{H H':Hp}{l c w x:Addr}{U W W':Addr->Prop}{pe:iG}{af:cD}{pq pq':iG}{rq rq':cD}{aF:iH}{aL:iF}{nW:Nat}{bZ:Row}(St:qx C CS CW CB H l c w x U W pe af pq rq aF aL nW bZ)(wo:Wo W' H' w aL pq' rq')(dU:∀ a,U a->¬ W' a)(dW:∀ a,W' a->a≠l/\a≠c)(fr:∀ a ob,H a=⇑ob->¬ W' a->H' a=⇑ob)(tp:∀ a xs,H a=⇑(.tup xs)->H' a=⇑(.tup xs)):qx C CS CW CB H' l c w x U W' pe af pq' rq' aF aL nW bZ:=by
 refine⟨?_,St.MW.fr (λa ob e z=>fr _ _ e (dU a z)) tp,St.lst,wo,λa z=>⟨dU a z,(St.du a z).2⟩,dW⟩;let⟨n,ns,i,d,r,e1,e2,h3⟩:=St.src;exact⟨n,ns,i,d,r,fr _ _ e1 (λz=>(dW l z).1 rfl),fr _ _ e2 (λz=>(dW c z).2 rfl),h3⟩
def qx.new{C:Addr}{H:Hp}{l c w x a:Addr}{U W:Addr->Prop}{pe:iG}{af:cD}{pq:iG}{rq:cD}{aF:iH}{aL:iF}{nW:Nat}{bZ:Row}(St:qx C CS CW CB H l c w x U W pe af pq rq aF aL nW bZ)(h:H a=none):¬ U a/\¬ W a/\a≠l/\a≠c:=by
 have n:=St.src.ne h;refine⟨λz=>?_,λz=>?_,n.1.symm,n.2.symm⟩
 ·let⟨ob,e⟩:=St.MW.al z;rw[h]at e;cases e
 ·let⟨ob,e⟩:=St.wo.al z;rw[h]at e;cases e
def own(af:cD)(x:Int):List Int:=(af[x.toNat]?).getD []
def Xu{af:cD}{x:Int}{es:List Int}(h:af[x.toNat]?=⇑es):own af x=es:=by
 unfold own;rw[h];rfl
def Aw{af:cD}{s:Nat}(es:List Int)(h:s<↑af):pU af s es=af.set s es:=by
 unfold pU;rw[List.set_eq_take_append_cons_drop,if_pos h,mL];rfl
theorem Gm{k:Nat}:∀ {row:Row},(∀ p∈row,p.2<=p.1+(k:Nat))->↑(bz row)<=k*↑row
 | [],_=>Nat.zero_le _
 | p::r,h=>by
  have ih:=Gm (row:=r) λq hq=>h q (oE _ hq);have hp:=h p (tL ..);have e:bz (p::r)=jH p++bz r:=by unfold bz;rw[kG]
  rw[e,cX,kX,Nat.mul_add,Nat.mul_one];have:↑(jH p)<=k:=by unfold jH;rw[gi];lia
  lia
def Gn{n:Nat}{row:Row}(h:∀ p∈row,0<=p.1/\p.1<p.2/\p.2<=(n:Nat)){e:Int}(he:e∈bz row):0<=e/\e<(n:Nat):=by
 unfold bz at he;let⟨p,hp,hm⟩:=List.mem_flatMap.mp he;have b:=h p hp;have m:=J5.mp hm;lia
class inductive Xv
 | mk (r e:Addr) (s:Nat) (xs:List V) (_:vs=[↥r,.int (s:Nat),↥e]) (_:H r=⇑(.lst xs)) (_:s<↑xs) (_:↑xs<=1000) (_:∀ (q:Addr) (H':Hp),H' q=⇑(.lst (xs.set s ↥e))->aJ H H'->H q=none->Q ↥q H')
theorem yj:aH ["_law_rows","_law_sheet","_law_entries","_law_found"] ["_law_rows","_law_sheet","_law_entries"] (aB ud):=fc
def Th{n:Nat}{i:Nat}(h1:i<n):JI n ((i:Nat):Int)=⇑i:=by
 unfold JI;rw[if_pos ∅,Int.toNat_natCast,if_pos ∅]
theorem rB:‹(1,76,["_law_rows","_law_sheet","_law_entries"],Xv)›:=λD=>by
 refine fH D.R0.F yj λcJ A zn s0 H vs Q E hr h=>?_;let⟨r,e,s,xs,rfl,hr1,hs,lx,k⟩:=h;exists _,(ao (aW (i:=3) yj.nd (eT fY rfl D.T.i6 sf (aa (pv 0) aj))) (ao (nh (pv 2) (oN (pv 3) (pv 1) jB)) (ay (aN (pv 3)))));refine⟨Y,r,Y,.inl (bC.of hr1),λq hq=>?_⟩;refine⟨Y,Y,Y,q,P,s,V,ah,Th hs,Y,k q _ ah (bQ hq (au hq _) (aK q _ _)) hq⟩
def Wo.swap{W:Addr->Prop}{H:Hp}{w rw q e:Addr}{aL:iF}{pq:iG}{rq:cD}{xs:List V}{s:Nat}{es:List Int}(wu:Bj W H w ik rw ps vl aL pq rq)(hx:H rw=⇑(.lst xs))(hq:H q=⇑(.lst (xs.set s ↥e)))(he:H e=⇑(.lst (es.map V.int)))(nq:¬ W q)(ne:¬ W e):Bj (λa=>W a\/a=e\/a=q) H w ik rw ps vl aL pq rq/\MV (λa=>W a\/a=e\/a=q) ik ps H q (rq.set s es):=by
 have Yk:Bj (λa=>W a\/a=e\/a=q) H w ik rw ps vl aL pq rq:=qx.UB wu (λa z=>.inl z) (by
  rintro a (z|z|z)
  ·exact wu.al a z
  ·rw[z];exact⟨_,he⟩
  ·rw[z];exact⟨_,hq⟩)
 let⟨_,_,_,vs,hvs,al⟩:=id Yk.hr;rw[hx]at hvs;cases hvs;have ne':∀ {a b:Addr},W a->¬ W b->b≠a:=λwa nb z=>nb (by rw[z];exact wa);exists Yk,.inr (.inr rfl),ne' wu.wi nq,ne' wu.wp nq,_,hq
 have key:∀ {vs:List V} {rs:cD} (s:Nat),bV (Uz (λa=>W a\/a=e\/a=q) ik ps H) vs rs->bV (Uz (λa=>W a\/a=e\/a=q) ik ps H) (vs.set s ↥e) (rs.set s es):=by
  intro vs rs s z
  induction z generalizing s with
  | nil=>exact .nil
  | cons o t ih =>
   cases s with
   | zero=>exact .cons ⟨e,rfl,.inr (.inl rfl),ne' wu.wi ne,ne' wu.wp ne,he⟩ t
   | succ n=>exact .cons o (ih n)
 exact key s al
theorem lG:aH ["_law_row","_law_numbers","_law_start","_law_stop"] ["_law_row"] (aB qM):=fc
theorem DW:‹(1,77,["_law_row"],(Q3 1000000))›:=λD=>by
 specialize fH D.aau.F lG;let⟨r,row,rfl,⟨as,hr1,hp⟩,hbd,cZ,hrl,k⟩:=h;exists _,(ao (aW (i:=1) lG.nd (bO aj)) (ao (dN PassesOwn.never rfl (cz (pv 0)) (oM (n:=2) rfl (b9 (bW (i:=2) lG.nd) (b9 (bW (i:=3) lG.nd) iI))) (ay (aV (dI qm PySem.F.slot_list_extend PySem.F.type_list_extend jV (pv 1) (aa (eT (sS rfl) rfl D.T.i6 sf (aa (eT EZ rfl D.T.iN PyProof.Rows.boot_range (aa (pv 2) (aa (pv 3) aj))) aj)) aj))))) (ay (aN (pv 1)))));refine⟨iZ,λq hq=>?_⟩;have s0:aJ H (aM H q (.lst [])):=au hq _;refine⟨Y,r,rfl,⟨_,bC.of (s0 _ _ hr1)⟩,dz (K:=K) (a:=r) (xs:=as.map V.ref) (λi σ H2=>∃ (u v:Option V),σ=[⇑↥r,⇑↥q,u,v]/\H2 q=⇑(.lst ((bz (row.take i)).map V.int))/\aJ H H2) ⟨none,none,rfl,ah,s0⟩ (by rintro i σ H2 _ ⟨_,_,_,_,s⟩;exact bC.of (s _ _ hr1)) ?_ ?_⟩
 ·rintro i x σ H2 hi ⟨u,v,rfl,eK,s⟩;rw[gf]at hi;let⟨a,ea,rfl⟩:=Option.map_eq_some_iff.mp hi;let⟨⟨st,en⟩,ep,ha⟩:=hp.get ea;let⟨b1,b2,b3⟩:=hbd _ (oA ep);simp only at b1 b2 b3;have step:=zE ep
  have lz:↑(bz (row.take i))+(en-st).toNat<=1000000:=by
   have z:=sU row (i+1);rw[step,cX,jH,gi]at z;exact jv z cZ
  exists a,Y,gV.of (s _ _ ha),rfl,P,rfl,Z;refine⟨Y,.inl ⟨rfl,_,bC.of eK⟩,Y,Y,P,rfl,λp hp=>⟨p,P,rfl,ah,⟨Q,Q,Q,Q⟩,gQ (aQ ∅),λm hm=>?_⟩⟩;have s1:aJ H2 (aM H2 p (.AV st en)):=au hp _;have s2:=s1.trans (au hm (.lst (BY st (en-st).toNat)));exists q,m,Z,s2 _ _ eK,ah,?_
  ·rw[cy,zD,cy,gi];exact gQ (aQ ∅)
  ·refine⟨P,rfl,?_,bQ hq (s.trans s2) (aK q _ _)⟩;rw[ah,step,gU,zD];rfl
 ·rintro σ H2 ⟨u,v,rfl,eK,s⟩;refine⟨Y,k q H2 ?_ s hq⟩;rw[cy,hp.len,gP]at eK;exact eK
class inductive DX(d:Nat)
 | mk (av:Addr->Prop) (r:Addr) (af:cD) (x:Int) (sh:Int->List Int) (rk:Int->Nat) (_:vs=[↥r,.int x]) (_:iy av H r af) (_:↑af<=1000) (_:fJ af) (_:0<=x) (_:x<↑af) (_:qc af sh) (_:(∀ x:Int,0<=x->x<↑af->↑(sh x)<=10000)) (_:(∀ x y,jf af x y->rk y<rk x)) (_:rk x<d) (_ :
 ∀ (o:Addr) (H':Hp),H' o=⇑(.lst ((sh x).map V.int))->aJ H H'->H o=none->Q ↥o H')
theorem rC:aH ["_law_rows","_law_sheet","_law_numbers","_law_entry"] ["_law_rows","_law_sheet"] (aB ue):=fc
def Bk(D:Ds K mg aX aZ C CS CW CB CT CD aA XG ci){n:Nat}(IQ:aY P w K mg zt cP (n+1) (aX 78) (aZ 78) ["_law_rows","_law_sheet"] (DX n)):aY P w K mg zt cP (n+2) (aX 78) (aZ 78) ["_law_rows","_law_sheet"] (DX (n+1)):=by
 specialize fH D.LR.F rC;let⟨av,r,af,x,sh,rk,rfl,R,cZ,rS,x0,x1,BL,hbd,wX,hd,k⟩:=h;obtain⟨es,eO⟩:∃ es,af[x.toNat]?=⇑es:=⟨_,qB ∅⟩;let⟨yc,b,yb,Dt,hb0,hrl⟩:=R.get eO
 have vt:qF yc x=⇑↥b:=by
  have z:=dF Dt;rw[show ((x.toNat:Nat):Int)=x by lia]at z;exact z
 have shx:=BL x es x0 eO
 have part:∀ i,↑(aT sh (es.take i))<=10000:=λi=>by
  have z:=hbd x x0 x1
  have e:aT sh es=aT sh (es.take i)++aT sh (es.drop i):=by
   unfold aT;rw[← List.flatMap_append,List.take_append_drop]
  rw[shx,e,cX]at z;lia
 exists _,(ao (aW (i:=2) rC.nd (bO aj)) (ao (dN PassesOwn.never rfl (cz (bI bw (pv 0) (pv 1))) (bW (i:=3) rC.nd) (ay (bS (br mS (pv 3) aC (bx _)) (ay (aV (dI qm PySem.F.slot_list_extend PySem.F.type_list_extend jV (pv 2) (aa (aI D.LR IQ hr (aa (pv 0) (aa (bJ cS (gm dQ aC) (pv 3)) aj))) aj)))) (ay (aV (dI qm jQ jR bT (pv 2) (aa (pv 3) aj))))))) (ay (aN (pv 2)))));refine⟨iZ,λq hq=>?_⟩;have s0:aJ H (aM H q (.lst [])):=au hq _;refine⟨Y,Y,r,K,V,bC.of (s0 _ _ yb),vt,b,rfl,⟨_,bC.of (s0 _ _ hb0)⟩,dz (K:=K) (a:=b) (xs:=es.map V.int) (λi σ H2=>∃ u:Option V,σ=[⇑↥r,⇑(.int x),⇑↥q,u]/\H2 q=⇑(.lst ((aT sh (es.take i)).map V.int))/\aJ H H2) ⟨none,rfl,ah,s0⟩ (by rintro i σ H2 _ ⟨_,_,_,s2⟩;exact bC.of (s2 _ _ hb0)) ?_ ?_⟩
 ·rintro i e σ H2 hi ⟨u,rfl,h2,s2⟩;rw[gf]at hi;let⟨e,ex,rfl⟩:=Option.map_eq_some_iff.mp hi
  have st:aT sh (es.take (i+1))=aT sh (es.take i)++bq sh e:=by
   rw[take_snoc ex];unfold aT;rw[List.flatMap_append];simp
  have pl:=part (i+1);rw[st,cX]at pl;refine⟨Y,Z,Y,cT (λc=>?_) (λc=>?_)⟩
  ·have c':e<0:=of_decide_eq_true c;have ee:bq sh e=sh (-1-e):=by unfold bq;rw[if_pos c']
   rw[ee]at st pl;have G7:jf af x (-1-e):=⟨x0,es,eO,bu.mpr ⟨Q,by rw[show -1-(-1-e)=e by lia];exact oA ex⟩⟩;let⟨y0,y1⟩:=rS.Fq G7;have rky:=wX _ _ G7;refine⟨Y,.inl ⟨rfl,_,bC.of h2⟩,Y,Y,Y,Z,av,r,af,-1-e,sh,rk,rfl,R.same s2,cZ,rS,y0,y1,BL,hbd,wX,Q,λo H3 h3 s3 ho=>?_⟩;refine⟨q,o,Z,s3 _ _ h2,h3,gQ (aQ (by rw[cy,cy];lia)),?_⟩;refine⟨Y,?_,bQ hq (s2.trans s3) (aK q _ _)⟩;rw[ah,st,gU]
  ·have c':¬ e<0:=λz=>c (decide_eq_true z);have ee:bq sh e=[e]:=by unfold bq;rw[if_neg c']
   rw[ee]at st pl;refine⟨Y,.inl ⟨rfl,_,bC.of h2⟩,Y,q,Z,h2,(by rw[cy];exact aQ ∅),?_⟩;refine⟨Y,?_,bQ hq s2 (aK q _ _)⟩;rw[ah,st,gU];rfl
 ·rintro σ H2 ⟨u,rfl,h2,s2⟩;rw[cy,gP,← shx]at h2;exact⟨Y,k q H2 h2 s2 hq⟩
theorem kF(D:Ds K mg aX aZ C CS CW CB CT CD aA XG ci):∀ n:Nat,aY P w K mg zt cP (n+1) (aX 78) (aZ 78) ["_law_rows","_law_sheet"] (DX n)
 | 0=>by
  have no:∀ vs H Q E,¬ DX 0 vs H Q E:=λvs H Q E h=>by
   let⟨_,_,_,_,_,_,_,_,_,_,_,_,_,_,_,h,_⟩:=h;exact Nat.not_lt_zero _ h
  exact⟨λvs H Q E h=>absurd h (no vs H Q E),λA zn s H args us vs Q E _ _ _ _ h=>absurd h (no vs H Q E)⟩
 | n+1=>Bk D (kF D n)
def MX(af:cD):Nat->Int->List Int
 | 0,_=>[]
 | k+1,x=>match af[x.toNat]? with
  | some es=>aT (MX af k) es
  | none=>[]
def Gp{f g:Int->List Int}{es:List Int}(h:∀ y∈cM es,f y=g y):aT f es=aT g es:=by
 unfold aT;rw[List.flatMap_def,List.flatMap_def];congr 1;refine List.map_congr_left λe he=>?_;unfold bq;by_cases c:e<0
 ·rw[if_pos c,if_pos c,h (-1-e) (bu.mpr ⟨Q,by rw[show -1-(-1-e)=e by lia];exact he⟩)]
 ·rw[if_neg c,if_neg c]
def Gq{af:cD}(h:sW af):∃ sh,qc af sh:=by
 let⟨rk,hb,hd⟩:=h
 have key:∀ (k:Nat) (x:Int),0<=x->rk x<k->MX af k x=MX af (k+1) x:=by
  intro k
  induction k with
  | zero=>intro x _ h;lia
  | succ k ih =>
   intro x x0 hx
   cases e:af[x.toNat]? with
   | none=>simp[MX,e]
   | some es =>
    have e1:MX af (k+1) x=aT (MX af k) es:=by simp[MX,e]
    have e2:MX af (k+1+1) x=aT (MX af (k+1)) es:=by
     show (match af[x.toNat]? with|some es=>aT (MX af (k+1)) es|none=>[])=_;rw[e]
    rw[e1,e2];refine Gp λy hy=>ih y (bu.mp hy).1 ?_;have:=hd x y ⟨x0,es,e,hy⟩;lia
 refine⟨MX af 41,λx es x0 he=>?_⟩;rw[key 41 x x0 (by have:=hb x;lia)];show (match af[x.toNat]? with|some es=>aT (MX af 41) es|none=>[])=_;rw[he]
def Ax(n:Nat)(L:List Int):Nat:=cnt n λi=>decide ((i:Int)∉L)
def MB{n:Nat}{L:List Int}{y:Int}(h0:0<=y)(h1:y<n)(hn:y∉L):Ax n (L++[y])+1=Ax n L:=by
 refine vg y.toNat n ∅ ?_ λi=>?_
 ·show decide (((y.toNat:Nat):Int)∉L)=true;rw[show ((y.toNat:Nat):Int)=y by lia];exact decide_eq_true hn
 ·show decide ((i:Int)∉L++[y])=(decide ((i:Int)∉L)&&decide (i≠y.toNat));rw[← Bool.decide_and];congr 1;rw[List.mem_append,List.mem_singleton];apply propext;constructor
  ·intro h;exact⟨λq=>h (.inl q),λq=>h (.inr ∅)⟩
  ·rintro⟨a,b⟩ (q|q)
   ·exact a q
   ·exact b ∅
def DY(a b:List Int):cM (a++b)=cM a++cM b:=by unfold cM;rw[List.filterMap_append]
structure Dfs(af:cD)(H:Hp)(Rr Wt:Addr)(s:Int)(OH:Int->Prop)(H2:Hp)(L ws:List Int):Prop where
 hR:H2 Rr=⇑(.lst (L.map V.int))
 hW:H2 Wt=⇑(.lst (ws.map V.int))
 sm:aJ H H2
 rc:∀ x∈L,Reach (jf af) s x
 wr:∀ x∈ws,(x=s\/x∈L)/\0<=x/\x<↑af
 kl:↑L+Ax ↑af L<=↑af
 cl:∀ x,(x=s\/x∈L)->x∈ws\/OH x\/∀ y,jf af x y->y∈L
class inductive MC
 | mk (av:Addr->Prop) (r:Addr) (af:cD) (s:Int) (_:vs=[↥r,.int s]) (_:iy av H r af) (_:↑af<=1000) (_:(∀ es∈af,↑es<=100000)) (_:fJ af) (_:0<=s) (_:s<↑af) (_ :
 ∀ (L:List Int) (o:Addr) (H':Hp),H' o=⇑(.lst (L.map V.int))->aJ H H'->(∀ x,x∈L↔Reach (jf af) s x)->Q ↥o H')
theorem iC:aH ["_law_rows","_law_sheet","_law_reached_here","_law_waiting","_law_here","_law_entry"] ["_law_rows","_law_sheet"] (aB nB):=fc
def muR(n:Nat)(L ws:List Int):Nat:=2*Ax n L+↑ws
def UD(af:cD)(H:Hp)(r Rr Wt:Addr)(s:Int)(m:Nat)(σ:L2.St)(H2:Hp):Prop:=∃ (L ws:List Int) (u v:Option V),σ=[⇑↥r,⇑(.int s),⇑↥Rr,⇑↥Wt,u,v]/\Dfs af H Rr Wt s (λ_=>False) H2 L ws/\↑ws+2*Ax ↑af L<=2*↑af+1/\m=muR ↑af L ws
theorem rD:‹(1,79,["_law_rows","_law_sheet"],MC)›:=λD=>by
 refine fH D.Wz.F iC λcJ A zn s0 H vs Q E hr h=>?_;let⟨av,r,af,s,rfl,hRw,cZ,hes,rS,h0,h1,k⟩:=h;have hu:=gF hr;exists _,(ao (aW (i:=2) iC.nd (bO aj)) (ao (aW (i:=3) iC.nd (bO (aa (pv 1) aj))) (ao (uN PassesOwn.never (br BF (ef D.T.dP (pv 3)) aC (bx _)) (ao (aW (i:=4) iC.nd (Nr qm PySem.F.slot_list_pop PySem.F.type_list_pop Ny (pv 3))) (ay (dN PassesOwn.never rfl (cz (bI bw (pv 0) (pv 4))) (bW (i:=5) iC.nd) (ay (bS (PW.pt (oJ (br mS (pv 5) aC (bx _)) (mR (br uU (bJ cS (gm dQ aC) (pv 5)) (pv 2) rfl)))) (ao (aV (dI qm jQ jR bT (pv 2) (aa (bJ cS (gm dQ aC) (pv 5)) aj))) (ay (aV (dI qm jQ jR bT (pv 3) (aa (bJ cS (gm dQ aC) (pv 5)) aj))))) bG)))))) (ay (aN (pv 2))))));refine⟨iZ,λRr hRr=>?_⟩;refine⟨Y,jY,λWt hWt=>?_⟩;have s1:aJ H (aM H Rr (.lst [])):=au hRr _;have s2:=s1.trans (au hWt (.lst [.int s]))
 have Sf:H Wt=none:=by
  cases e:H Wt with
  | none=>rfl
  | some o=>exact absurd ((s1 _ _ e).symm.trans hWt) (by simp)
 have nRW:Rr≠Wt:=az ah hWt;exists UD af H r Rr Wt s,⟨_,[],[s],none,none,rfl,⟨au hWt _ _ _ ah,ah,s2,?_,?_,?_,?_⟩,?_,rfl⟩
 ·intro x hx;cases hx
 ·intro x hx;have:x=s:=by simpa using hx
  exact⟨.inl this,Q,Q⟩
 ·have:=zQ ↑af (λi=>decide ((i:Int)∉([]:List Int)));show 0+cnt ↑af _<=_;lia
 ·rintro x (rfl|hx)
  ·exact .inl (by simp)
  ·cases hx
 ·have:=zQ ↑af (λi=>decide ((i:Int)∉([]:List Int)));show 1+2*cnt ↑af _<=_;lia
 rintro m σ H2 ⟨L,ws,u,v,rfl,B,hml,rfl⟩;exists Y,Wt,Y,.inl (bC.of B.hW),Z,Y;rcases qo ws with rfl|⟨Yl,h,rfl⟩
 ·refine dM ⟨Y,k L Rr H2 B.hR B.sm λx=>⟨λhx=>B.rc x hx,λhx=>?_⟩⟩
  have zt:∀ x,(x=s\/x∈L)->∀ y,jf af x y->y∈L:=λx hx=>by
   rcases B.cl x hx with z|z|z
   ·cases z
   ·exact z.elim
   ·exact z
  exact Reach.closed (S:=λy=>y∈L) (zt s (.inl rfl)) (λx y hx=>zt x (.inr hx) y) hx
 rw[m6]at B hml ⊢;refine cT (λ_=>?_) (λz=>absurd (decide_eq_true (by simp)) z);let⟨hR2,hW2,sm2,rc2,wr2,kl2,cl2⟩:=id B;let⟨hh,e0,e1⟩:=wr2 h (by simp);obtain⟨es,eO⟩:∃ es,af[h.toNat]?=⇑es:=⟨_,qB ∅⟩;have WH:=hes es (oA eO);refine⟨fun σ' H'=>∃ m',m'<muR ↑af L (Yl++[h])/\UD af H r Rr Wt s m' σ' H',fun σ' H' z=>z,?_⟩;refine⟨Y,.inl ⟨rfl,_,bC.of hW2⟩,Wt,_,.int h,V,hW2,(by simp),?_⟩;have ee:((Yl++[h]).map V.int).dropLast=Yl.map V.int:=by simp
 rw[ee];have OJ:aJ H (aM H2 Wt (.lst (Yl.map V.int))):=bQ Sf sm2 (aK Wt _ _);let⟨yc,b,yb,Dt,hb0,hrl⟩:=hRw.get eO;have hb3:=OJ _ _ hb0;refine⟨Y,Y,r,K,V,bC.of (OJ _ _ yb),?_,b,rfl,⟨_,bC.of hb3⟩,dz (K:=K) (a:=b) (xs:=es.map V.int) (λi σ H5=>∃ (L2 Ti:List Int) (v:Option V),σ=[⇑↥r,⇑(.int s),⇑↥Rr,⇑↥Wt,⇑(.int h),v]/\ Dfs af H Rr Wt s (λx=>x=h) H5 L2 Ti/\(∀ y∈cM (es.take i),y∈L2)/\(∀ y∈L,y∈L2)/\Ti.length+2*Ax ↑af L2<=Yl.length+2*Ax ↑af L) ?_ ?_ ?_ ?_⟩
 ·have z:=dF Dt;rw[show ((h.toNat:Nat):Int)=h by lia]at z;exact z
 ·refine⟨L,Yl,Y,⟨(by rw[aG nRW];exact hR2),ah,OJ,rc2,λx hx=>wr2 x (sj _ hx),kl2,λx hx=>?_⟩,(λy hy=>by simp[cM]at hy),λ_ q=>q,fT _⟩;rcases cl2 x hx with z|z|z
  ·rcases List.mem_append.mp z with q|q
   ·exact .inl q
   ·exact .inr (.inl (by simpa using q))
  ·exact z.elim
  ·exact .inr (.inr z)
 ·rintro i σ H5 _ ⟨_,_,_,_,B5,_⟩;exact bC.of (B5.sm _ _ hb0)
 ·rintro i x σ H5 hi ⟨L2,Ti,v,rfl,B5,pZ,hsub,X9⟩;rw[gf]at hi;let⟨x,ex,rfl⟩:=Option.map_eq_some_iff.mp hi;have step:cM (es.take (i+1))=cM (es.take i)++cM [x]:=by rw[take_snoc ex,DY]
  refine⟨Y,Z,Y,cT (λc=>?_) (λc=>dM ?_)⟩
  ·have c':x<0:=of_decide_eq_true c;have wx:cM [x]=[-1-x]:=by simp[cM,c']
   have G7:jf af h (-1-x):=⟨e0,es,eO,by
    rw[bu]
    exact⟨Q,by rw[show -1-(-1-x)=x by lia];exact oA ex⟩⟩
   let⟨y0,y1⟩:=rS.Fq G7;exists Y,Y,Z,Y,Rr,Y,.inl (bC.of B5.hR),rfl,lH L2,Y;rw[rR];by_cases hm:-1-x∈L2
   ·rw[decide_eq_true hm];refine dM ?_;refine⟨L2,Ti,Y,B5,(λy hy=>?_),hsub,X9⟩;rw[step,wx]at hy;rcases List.mem_append.mp hy with q|q
    ·exact pZ y q
    ·have:y=-1-x:=by simpa using q
     rw[this];exact hm
   ·rw[decide_eq_false hm];refine ji ?_;have kll:=B5.kl;have mp:=MB y0 y1 hm;refine⟨Y,.inl ⟨rfl,_,bC.of B5.hR⟩,Y,Y,Z,Rr,Z,B5.hR,(by rw[cy];exact aQ ∅),?_⟩;have Qp:(aM H5 Rr (.lst (L2.map V.int++[.int (-1-x)]))) Wt=⇑(.lst (Ti.map V.int)):=by rw[aG nRW.symm];exact B5.hW
    refine⟨Y,.inl ⟨rfl,_,bC.of Qp⟩,Y,Y,Z,Wt,Z,Qp,(by rw[cy];rw[cX,qy]at hml;exact aQ ∅),?_⟩;refine⟨L2++[-1-x],Ti++[-1-x],Y,⟨?_,?_,bQ Sf (bQ hRr B5.sm (aK Rr _ _)) (aK Wt _ _),?_,?_,?_,?_⟩,?_,λy q=>sj _ (hsub y q),?_⟩
    ·rw[aG nRW,ah,gU];rfl
    ·rw[ah,gU];rfl
    ·intro y hy;rcases List.mem_append.mp hy with q|q
     ·exact B5.rc y q
     ·have:y=-1-x:=by simpa using q
      subst this;rcases hh with rfl|hh
      ·exact .one G7
      ·exact .step (B.rc h hh) G7
    ·intro y hy;rcases List.mem_append.mp hy with q|q
     ·let⟨q1,q2⟩:=B5.wr y q;exact⟨q1.imp id (sj _),q2⟩
     ·have:y=-1-x:=by simpa using q
      subst this;exact⟨.inr (by simp),y0,y1⟩
    ·rw[cX,qy];lia
    ·intro y hy;by_cases e:y=-1-x
     ·exact .inl (by rw[e];simp)
     ·have Lc:y=s\/y∈L2:=hy.imp id λq=>by
       rcases List.mem_append.mp q with z|z
       ·exact z
       ·exact absurd (by simpa using z) e
      rcases B5.cl y Lc with q|q|q
      ·exact .inl (sj _ q)
      ·exact .inr (.inl q)
      ·exact .inr (.inr λz hz=>sj _ (q z hz))
    ·intro y hy;rw[step,wx]at hy;rcases List.mem_append.mp hy with q|q
     ·exact sj _ (pZ y q)
     ·exact oF _ q
    ·rw[cX,qy];lia
  ·have c':¬ x<0:=λz=>c (decide_eq_true z);have wx:cM [x]=[]:=by simp[cM,c']
   exact⟨L2,Ti,Y,B5,(by rw[step,wx,ic];exact pZ),hsub,X9⟩
 ·rintro σ H5 ⟨L2,Ti,v,rfl,B5,pZ,hsub,X9⟩;rw[cy,gP]at pZ;refine⟨_,?_,L2,Ti,P,rfl,⟨B5.hR,B5.hW,B5.sm,B5.rc,B5.wr,B5.kl,λx hx=>?_⟩,?_,rfl⟩
  ·unfold muR;rw[cX,qy];lia
  ·rcases B5.cl x hx with q|rfl|q
   ·exact .inl q
   ·refine .inr (.inr λy hy=>pZ y ?_);let⟨_,rK,he',Lc⟩:=hy;rw[eO]at he';cases he';exact Lc
   ·exact .inr (.inr q)
  ·rw[cX,qy]at hml;lia
theorem pV(sh:Int->List Int)(es:List Int)(i:Nat):↑(aT sh (es.take i))<=↑(aT sh es):=iO (bq sh) es i
class inductive xK(d:Nat)
 | mk (av:Addr->Prop) (r:Addr) (af:cD) (e:Int) (sh:Int->List Int) (rk:Int->Nat) (_:vs=[↥r,.int e]) (_:iy av H r af) (_:↑af<=1000) (_:fJ af) (_:qc af sh) (_:(∀ x:Int,0<=x->x<↑af->↑(sh x)<=10000)) (_:(∀ x y,jf af x y->rk y<rk x)) (_:(e<0->-1-e<↑af/\rk (-1-e)<d)) (_ :
 ∀ (o:Addr) (H':Hp),H' o=⇑(.lst ((bq sh e).map V.int))->aJ H H'->H o=none->Q ↥o H')
theorem Bm:aH ["_law_rows","_law_entry"] ["_law_rows","_law_entry"] (aB pF):=fc
def tH(D:Ds K mg aX aZ C CS CW CB CT CD aA XG ci){d:Nat}:aY P w K mg zt cP (d+2) (aX 80) (aZ 80) ["_law_rows","_law_entry"] (xK d):=by
 specialize fH D.WA.F Bm;let⟨av,r,af,e,sh,rk,rfl,R,cZ,rS,BL,hbd,wX,hd,k⟩:=h;exists _,(ao (bS (br mS (pv 1) aC (bx _)) (ay (aN (aI D.LR (kF D d) hr (aa (pv 0) (aa (bJ cS (gm dQ aC) (pv 1)) aj))))) bG) (ay (aN (bO (aa (pv 1) aj)))));refine⟨Y,Z,Y,cT (λc=>?_) (λc=>?_)⟩
 ·have c':e<0:=of_decide_eq_true c;let⟨d1,d2⟩:=hd c';refine⟨Y,Y,Y,Z,av,r,af,-1-e,sh,rk,rfl,R,cZ,rS,Q,d1,BL,hbd,wX,d2,λo H' h s ho=>k o H' ?_ s ho⟩;unfold bq;rw[if_pos c'];exact h
 ·have c':¬ e<0:=λz=>c (decide_eq_true z);refine⟨Y,jY,λo ho=>k o _ ?_ (au ho _) ho⟩;unfold bq;rw[if_neg c',ah];rfl
theorem DZ(sh:Int->List Int)(p:Int):∀ (es:List Int) (f:Int),↑(aE sh p f es)<=↑es+↑(aT sh es)
 | [],_=>by simp[aE]
 | e::r,f=>by
  rw[aE,cF,cX,cX,kX];have a:=DZ sh p r (f+↑(bq sh e))
  have b:↑(if f+↑(bq sh e)<=p then [e] else if p<=f then [] else (bq sh e).take (p-f).toNat)<=1+↑(bq sh e):=by
   split
   ·simp
   ·split
    ·simp
    ·rw[gO];lia
  lia
theorem D0(sh:Int->List Int)(p:Int):∀ (es:List Int) (f:Int),↑(bE sh p f es)<=↑es+↑(aT sh es)
 | [],_=>by simp[bE]
 | e::r,f=>by
  rw[bE,cF,cX,cX,kX];have a:=D0 sh p r (f+↑(bq sh e))
  have b:↑(if f+↑(bq sh e)<=p then [] else if p<=f then [e] else (bq sh e).drop (p-f).toNat)<=1+↑(bq sh e):=by
   split
   ·simp
   ·split
    ·simp
    ·rw[List.length_drop];lia
  lia
class inductive D3(d:Nat)
 | mk (av:Addr->Prop) (r n:Addr) (af:cD) (s p:Int) (new:List Int) (sh:Int->List Int) (rk:Int->Nat) (_:vs=[↥r,.int s,.int p,↥n]) (_:iy av H r af) (_:↑af<=1000) (_:(∀ es∈af,↑es<=25000)) (_:fJ af) (_:qc af sh) (_:(∀ x:Int,0<=x->x<↑af->↑(sh x)<=10000)) (_:(∀ x y,jf af x y->rk y<rk x)) (_:0<=s) (_:s<↑af) (_:rk s<=d) (_:H n=⇑(.lst (new.map V.int))) (_:↑new<=25000) (_ :
 ∀ (es:List Int) (o:Addr) (H':Hp),af[s.toNat]?=⇑es->H' o=⇑(.lst ((eV sh p es new).map V.int))->↑(eV sh p es new)<=100000->aJ H H'->H o=none->Q ↥o H')
theorem iD:aH ["_law_rows","_law_sheet","_law_place","_law_new","_law_ahead","_law_behind","_law_first","_law_entry","_law_pieces_here","_law_last"] ["_law_rows","_law_sheet","_law_place","_law_new"] (aB wB):=fc
def IS(D:Ds K mg aX aZ C CS CW CB CT CD aA XG ci){d:Nat}:aY P w K mg zt cP (d+3) (aX 81) (aZ 81) ["_law_rows","_law_sheet","_law_place","_law_new"] (D3 d):=by
 have pW:aY P w K mg zt cP (d+2) _ _ zl6 (xK d):=tH D;refine fH D.WB.F iD λcJ A zn s0 H vs Q E hr h=>?_;let⟨av,r,n,af,s,p,new,sh,rk,rfl,R,cZ,hes,rS,BL,hbd,wX,h0,h1,hd,hn,nl,k⟩:=h;obtain⟨es,eO⟩:∃ es,af[s.toNat]?=⇑es:=⟨_,qB ∅⟩;have esl:=hes es (oA eO);have shs:=BL s es h0 eO;have shl:=hbd s h0 h1;rw[shs]at shl;let⟨yc,b,yb,Dt,hb0,hrl⟩:=R.get eO
 have vt:qF yc s=⇑↥b:=by
  have z:=dF Dt;rw[show ((s.toNat:Nat):Int)=s by lia]at z;exact z
 exists _,(ao (bS (br gn (ef D.T.dP (pv 3)) aC (bx _)) (ay (aN (eT fY rfl D.T.i6 sf (aa (bI bw (pv 0) (pv 1)) aj)))) bG) (ao (aW (i:=4) iD.nd (bO aj)) (ao (aW (i:=5) iD.nd (bO aj)) (ao (aW (i:=6) iD.nd aC) (ao (dN PassesOwn.never rfl (cz (bI bw (pv 0) (pv 1))) (bW (i:=7) iD.nd) (ao (aW (i:=8) iD.nd (aI D.WA pW hr (aa (pv 0) (aa (pv 7) aj)))) (ao (aW (i:=9) iD.nd (bJ eU (pv 6) (ef D.T.dP (pv 8)))) (ao (bS (br gy (pv 9) (pv 2) (bx _)) (ay (aV (dI qm jQ jR bT (pv 4) (aa (pv 7) aj)))) (ay (bS (br gy (pv 2) (pv 6) (bx _)) (ay (aV (dI qm jQ jR bT (pv 5) (aa (pv 7) aj)))) (ao (aV (dI qm PySem.F.slot_list_extend PySem.F.type_list_extend jV (pv 4) (aa (jb lC (pv 8) lu (jA (bJ cS (pv 2) (pv 6)))) aj))) (ay (aV (dI qm PySem.F.slot_list_extend PySem.F.type_list_extend jV (pv 5) (aa (jb lC (pv 8) (jA (bJ cS (pv 2) (pv 6))) lu) aj)))))))) (ay (aW (i:=6) iD.nd (pv 9))))))) (ay (aN (bJ jC (bJ jC (pv 4) (pv 3)) (pv 5)))))))));refine⟨Y,n,Y,.inl (bC.of hn),rfl,Y,cT (λc=>?_) (λc=>?_)⟩
 ·have c':new=[]:=by
   have z:V.int (↑(new.map V.int):Int)=V.int 0:=of_decide_eq_true c;have z2:=V.int.inj z;rw[cy]at z2;exact List.eq_nil_of_length_eq_zero ∅
  refine⟨Y,Y,r,K,V,bC.of yb,vt,b,Y,.inl (bC.of hb0),λo ho=>k es o _ eO ?_ ?_ (au ho _) ho⟩
  ·rw[ah];unfold eV;rw[if_pos c']
  ·unfold eV;rw[if_pos c'];lia
 have c':¬ new=[]:=λz=>c (by rw[z];rfl);refine⟨iZ,λA hA=>⟨iZ,λB hB=>?_⟩⟩;have sA:aJ H (aM H A (.lst [])):=au hA _;have sB:aJ _ (aM (aM H A (.lst [])) B (.lst [])):=au hB _;have s1:=sA.trans sB;have AS:A≠B:=az ah hB;have MU:=aU sA hB;refine⟨Y,Y,r,K,V,bC.of (s1 _ _ yb),vt,b,rfl,⟨_,bC.of (s1 _ _ hb0)⟩,dz (K:=K) (a:=b) (xs:=es.map V.int) (λi σ H2=>∃ u1 u2 u3:Option V,σ=[⇑↥r,⇑(.int s),⇑(.int p),⇑↥n,⇑↥A,⇑↥B,⇑(.int (0+(↑(aT sh (es.take i)):Int))),u1,u2,u3]/\H2 A=⇑(.lst ((aE sh p 0 (es.take i)).map V.int))/\H2 B=⇑(.lst ((bE sh p 0 (es.take i)).map V.int))/\aJ H H2) ⟨none,none,none,rfl,sB _ _ ah,ah,s1⟩ (by rintro i σ H2 _ ⟨_,_,_,_,_,_,s2⟩;exact bC.of (s2 _ _ hb0)) ?_ ?_⟩
 ·rintro i x σ H2 hi ⟨u1,u2,u3,rfl,PM,hB2,s2⟩;rw[gf]at hi;let⟨e,ex,rfl⟩:=Option.map_eq_some_iff.mp hi;have st:=take_snoc ex
  have eA:aE sh p 0 (es.take (i+1))=aE sh p 0 (es.take i)++(if 0+(↑(aT sh (es.take i)):Int)+↑(bq sh e)<=p then [e] else if p<=0+(↑(aT sh (es.take i)):Int) then [] else (bq sh e).take (p-(0+(↑(aT sh (es.take i)):Int))).toNat):=by
   rw[st,w9,aE,aE,ic]
  have eB:bE sh p 0 (es.take (i+1))=bE sh p 0 (es.take i)++(if 0+(↑(aT sh (es.take i)):Int)+↑(bq sh e)<=p then [] else if p<=0+(↑(aT sh (es.take i)):Int) then [e] else (bq sh e).drop (p-(0+(↑(aT sh (es.take i)):Int))).toNat):=by
   rw[st,xg,bE,bE,ic]
  have eF:(0+(↑(aT sh (es.take (i+1))):Int))=0+(↑(aT sh (es.take i)):Int)+↑(bq sh e):=by
   rw[st,pP,cF,cX,cX];simp[aT]
  have lA:=DZ sh p (es.take (i+1)) 0;have lB:=D0 sh p (es.take (i+1)) 0;have lA0:=DZ sh p (es.take i) 0;have lB0:=D0 sh p (es.take i) 0;have l1:=pV sh es (i+1);have l0:=pV sh es i;have t1:↑(es.take (i+1))<=↑es:=by rw[gO];lia
  have t0:↑(es.take i)<=↑es:=by rw[gO];lia
  refine⟨Y,Y,av,r,af,e,sh,rk,rfl,R.same s2,cZ,rS,BL,hbd,wX,λafx=>?_,λo H3 h3 s3 ho=>?_⟩
  ·have nx:jf af s (-1-e):=⟨h0,es,eO,bu.mpr ⟨Q,by rw[show -1-(-1-e)=e by lia];exact oA ex⟩⟩;have:=wX _ _ nx;exact⟨(rS.Fq nx).2,Q⟩
  have G8:=s3 _ _ PM;have Tj:=s3 _ _ hB2;exists Y,Y,o,Y,.inl (bC.of h3),Z;rw[cy];refine⟨Y,Y,Z,Y,cT (λc1=>?_) (λc1=>?_)⟩
  ·have UE:0+(↑(aT sh (es.take i)):Int)+(↑(bq sh e):Int)<=p:=of_decide_eq_true c1;rw[if_pos UE]at eA eB;refine⟨Y,.inl ⟨rfl,_,bC.of G8⟩,Y,A,Z,G8,aQ (by rw[cy];lia),?_⟩;refine⟨Y,⇑(.int e),⇑↥o,⇑(.int (0+(↑(aT sh (es.take i)):Int)+(↑(bq sh e):Int))),?_,?_,?_,bQ hA (s2.trans s3) (aK A _ _)⟩
   ·rw[eF];rfl
   ·rw[ah,eA,gU];rfl
   ·rw[aG AS.symm,eB,ic];exact Tj
  ·have UE:¬ 0+(↑(aT sh (es.take i)):Int)+(↑(bq sh e):Int)<=p:=λz=>c1 (decide_eq_true z);rw[if_neg UE]at eA eB;refine⟨Y,Y,Z,Y,cT (λc2=>?_) (λc2=>?_)⟩
   ·have Mg:p<=0+(↑(aT sh (es.take i)):Int):=of_decide_eq_true c2;rw[if_pos Mg]at eA eB;refine⟨Y,.inl ⟨rfl,_,bC.of Tj⟩,Y,B,Z,Tj,aQ (by rw[cy];lia),?_⟩;refine⟨Y,⇑(.int e),⇑↥o,⇑(.int (0+(↑(aT sh (es.take i)):Int)+(↑(bq sh e):Int))),?_,?_,?_,bQ MU (s2.trans s3) (aK B _ _)⟩
    ·rw[eF];rfl
    ·rw[aG AS,eA,ic];exact G8
    ·rw[ah,eB,gU];rfl
   ·have Mg:¬ p<=0+(↑(aT sh (es.take i)):Int):=λz=>c2 (decide_eq_true z);rw[if_neg Mg]at eA eB;rw[eA,cX]at lA;rw[eB,cX]at lB;refine⟨Y,.inl ⟨rfl,_,bC.of G8⟩,Y,Y,Y,Z,Y,o,Y,bC.of h3,λq1 Yc=>?_⟩;have n1:aJ H3 (aM H3 q1 (.lst (jN ((bq sh e).map V.int) none (⇑(p-(0+(↑(aT sh (es.take i)):Int))))))):=au Yc _;have e1:jN ((bq sh e).map V.int) none (⇑(p-(0+(↑(aT sh (es.take i)):Int))))=((bq sh e).take (p-(0+(↑(aT sh (es.take i)):Int))).toNat).map V.int:=by rw[uC _ ∅,List.map_take]
    refine⟨A,q1,Z,n1 _ _ G8,ah,gQ (aQ (by rw[e1,cy,cy];lia)),?_⟩;have k4:cL A H3 (aM (aM H3 q1 (.lst (jN ((bq sh e).map V.int) none (⇑(p-(0+(↑(aT sh (es.take i)):Int))))))) A (.lst ((aE sh p 0 (es.take i)).map V.int++jN ((bq sh e).map V.int) none (⇑(p-(0+(↑(aT sh (es.take i)):Int))))))):=cL.trans (aJ.keep n1) (aK A _ _);have no:o≠A:=(az PM ho).symm;have nqA:q1≠A:=(az G8 Yc).symm;have hB4:=k4 _ _ Tj AS.symm;refine⟨Y,.inl ⟨rfl,_,bC.of hB4⟩,Y,Y,Y,Z,Y,o,Y,bC.of (k4 _ _ h3 no),λq2 eK=>?_⟩;have e2:jN ((bq sh e).map V.int) (⇑(p-(0+(↑(aT sh (es.take i)):Int)))) none=((bq sh e).drop (p-(0+(↑(aT sh (es.take i)):Int))).toNat).map V.int:=by rw[xo _ ∅,List.map_drop]
    refine⟨B,q2,Z,au eK _ _ _ hB4,ah,gQ (aQ (by rw[e2,cy,cy];lia)),?_⟩;exists Y,⇑(.int e),⇑↥o,⇑(.int (0+(↑(aT sh (es.take i)):Int)+(↑(bq sh e):Int))),?_,?_,?_
    ·rw[eF];rfl
    ·rw[aG AS,au eK _ _ _ ah,eA,gU,e1]
    ·rw[ah,eB,gU,e2]
    ·exact bQ MU ((bQ hA (s2.trans s3) k4).trans (au eK _)) (aK B _ _)
 ·rintro σ H2 ⟨u1,u2,u3,rfl,PM,hB2,s2⟩;rw[cy,gP]at PM hB2;have lA:=DZ sh p es 0;have lB:=D0 sh p es 0;refine⟨Y,Y,A,n,Z,PM,s2 _ _ hn,gQ (aQ (by rw[cy,cy];lia)),λc1 X7=>?_⟩;have n1:aJ H2 (aM H2 c1 (.lst ((aE sh p 0 es).map V.int++new.map V.int))):=au X7 _;refine⟨Y,c1,B,Z,ah,n1 _ _ hB2,gQ (aQ (by rw[cX,cy,cy,cy];lia)),λc2 WV=>?_⟩;refine k es c2 _ eO ?_ ?_ (s2.trans (n1.trans (au WV _))) (aU (s2.trans n1) WV)
  ·rw[ah];unfold eV;rw[if_neg c',gU,gU]
  ·unfold eV;rw[if_neg c',cX,cX];lia
def Qt(sh:Int->List Int)(a b f e:Int):List Int:=if a=b then [e] else OV sh a b f e
def Qu(sh:Int->List Int)(a b f e:Int):List Int:=if a=b then [] else Uu sh a b f e
def Gr(sh:Int->List Int)(a b:Int)(es:List Int)(e:Int):dY sh a b (es++[e])=dY sh a b es++Qt sh a b (0+(↑(aT sh es):Int)) e:=by
 unfold dY Qt;split
 ·rfl
 ·rw[xm,kE,kE,ic]
def Gs(sh:Int->List Int)(a b:Int)(es:List Int)(e:Int):mF sh a b (es++[e])=mF sh a b es++Qu sh a b (0+(↑(aT sh es):Int)) e:=by
 unfold mF Qu;split
 ·rfl
 ·rw[Cs,tE,tE,ic]
def Tn(sh:Int->List Int)(a b f e:Int):↑(Qt sh a b f e)<=1+2*↑(bq sh e):=by
 unfold Qt OV;split
 ·simp
 ·split
  ·simp
  ·split
   ·simp
   ·rw[cX,gO,List.length_drop];lia
def To(sh:Int->List Int)(a b f e:Int):↑(Qu sh a b f e)<=1+2*↑(bq sh e):=by
 unfold Qu Uu;split
 ·simp
 ·split
  ·simp
  ·split
   ·simp
   ·rw[List.length_drop,gO];lia
theorem PN(sh:Int->List Int)(a b:Int):∀ (es:List Int) (f:Int),↑(kE sh a b f es)<=↑es+2*↑(aT sh es)
 | [],_=>by simp[kE]
 | e::r,f=>by
  rw[kE,cF,cX,cX,kX];have x:=PN sh a b r (f+↑(bq sh e))
  have y:↑(OV sh a b f e)<=1+2*↑(bq sh e):=by
   unfold OV;split
   ·simp
   ·split
    ·simp
    ·rw[cX,gO,List.length_drop];lia
  lia
theorem PR(sh:Int->List Int)(a b:Int):∀ (es:List Int) (f:Int),↑(tE sh a b f es)<=↑es+2*↑(aT sh es)
 | [],_=>by simp[tE]
 | e::r,f=>by
  rw[tE,cF,cX,cX,kX];have x:=PR sh a b r (f+↑(bq sh e))
  have y:↑(Uu sh a b f e)<=1+2*↑(bq sh e):=by
   unfold Uu;split
   ·simp
   ·split
    ·simp
    ·rw[List.length_drop,gO];lia
  lia
def IT(sh:Int->List Int)(a b:Int)(es:List Int):↑(dY sh a b es)<=↑es+2*↑(aT sh es):=by
 unfold dY;split
 ·lia
 ·exact PN sh a b es 0
def IU(sh:Int->List Int)(a b:Int)(es:List Int):↑(mF sh a b es)<=↑es+2*↑(aT sh es):=by
 unfold mF;split
 ·simp
 ·exact PR sh a b es 0
class inductive PU(d:Nat)
 | mk (av:Addr->Prop) (r:Addr) (af:cD) (s a b:Int) (sh:Int->List Int) (rk:Int->Nat) (_:vs=[↥r,.int s,.int a,.int b]) (_:iy av H r af) (_:↑af<=1000) (_:(∀ es∈af,↑es<=1000)) (_:fJ af) (_:qc af sh) (_:(∀ x:Int,0<=x->x<↑af->↑(sh x)<=10000)) (_:(∀ x y,jf af x y->rk y<rk x)) (_:0<=s) (_:s<↑af) (_:rk s<=d) (_:a<=b) (_ :
 ∀ (es:List Int) (t L M:Addr) (H':Hp),af[s.toNat]?=⇑es->H' t=⇑(.tup [↥L,↥M])->H' L=⇑(.lst ((dY sh a b es).map V.int))->H' M=⇑(.lst ((mF sh a b es).map V.int))->aJ H H'->H L=none->H M=none->L≠M->Q ↥t H')
theorem gk:aH ["_law_rows","_law_sheet","_law_start","_law_stop","_law_kept","_law_taken","_law_first","_law_entry","_law_pieces_here","_law_last","_law_low","_law_high"] ["_law_rows","_law_sheet","_law_start","_law_stop"] (aB wC):=fc
def IV(D:Ds K mg aX aZ C CS CW CB CT CD aA XG ci){d:Nat}:aY P w K mg zt cP (d+3) (aX 82) (aZ 82) ["_law_rows","_law_sheet","_law_start","_law_stop"] (PU d):=by
 have pW:aY P w K mg zt cP (d+2) _ _ zl6 (xK d):=tH D;refine fH D.aav.F gk λcJ A zn s0 H vs Q E hr h=>?_;let⟨av,r,af,s,p,q,sh,rk,rfl,R,cZ,hes,rS,BL,hbd,wX,h0,h1,hd,hpq,k⟩:=h;obtain⟨es,eO⟩:∃ es,af[s.toNat]?=⇑es:=⟨_,qB ∅⟩;have esl:=hes es (oA eO);have shs:=BL s es h0 eO;have shl:=hbd s h0 h1;rw[shs]at shl;let⟨yc,b,yb,Dt,hb0,hrl⟩:=R.get eO
 have vt:qF yc s=⇑↥b:=by
  have z:=dF Dt;rw[show ((s.toNat:Nat):Int)=s by lia]at z;exact z
 exists _,(ao (aW (i:=4) gk.nd (bO aj)) (ao (aW (i:=5) gk.nd (bO aj)) (ao (aW (i:=6) gk.nd aC) (ao (dN PassesOwn.never rfl (cz (bI bw (pv 0) (pv 1))) (bW (i:=7) gk.nd) (ao (aW (i:=8) gk.nd (aI D.WA pW hr (aa (pv 0) (aa (pv 7) aj)))) (ao (aW (i:=9) gk.nd (bJ eU (pv 6) (ef D.T.dP (pv 8)))) (ao (aW (i:=10) gk.nd (cu (rL rfl) rfl D.T.Fz PyProof.Rows.boot_max (aa aC (aa (bJ cS (pv 2) (pv 6)) aj)))) (ao (aW (i:=11) gk.nd (bJ cS (cu (rM rfl) rfl D.T.Ke PyProof.Rows.boot_min (aa (pv 9) (aa (pv 3) aj))) (pv 6))) (ao (bS (PW.pt (sL (br gn (pv 2) (pv 3) (bx _)) (sL (br gy (pv 9) (pv 2) (bx _)) (v7 (br gy (pv 3) (pv 6) (bx _)))))) (ay (aV (dI qm jQ jR bT (pv 4) (aa (pv 7) aj)))) (ay (bS (PW.pt (oJ (br gy (pv 2) (pv 6) (bx _)) (mR (br gy (pv 9) (pv 3) (bx _))))) (ay (aV (dI qm jQ jR bT (pv 5) (aa (pv 7) aj)))) (ao (aV (dI qm PySem.F.slot_list_extend PySem.F.type_list_extend jV (pv 4) (aa (bJ jC (jb lC (pv 8) lu (jA (pv 10))) (jb lC (pv 8) (jA (pv 11)) lu)) aj))) (ay (aV (dI qm PySem.F.slot_list_extend PySem.F.type_list_extend jV (pv 5) (aa (jb lC (pv 8) (jA (pv 10)) (jA (pv 11))) aj)))))))) (ay (aW (i:=6) gk.nd (pv 9))))))))) (ay (aN (eL (aa (pv 4) (aa (pv 5) aj)))))))));refine⟨iZ,λA hA=>⟨iZ,λB hB=>?_⟩⟩;have sA:aJ H (aM H A (.lst [])):=au hA _;have sB:aJ _ (aM (aM H A (.lst [])) B (.lst [])):=au hB _;have s1:=sA.trans sB;have AS:A≠B:=az ah hB;have MU:=aU sA hB
 have z0:dY sh p q []=[]/\mF sh p q []=[]:=by
  unfold dY mF
  constructor <;> split <;> rfl
 refine⟨Y,Y,r,K,V,bC.of (s1 _ _ yb),vt,b,rfl,⟨_,bC.of (s1 _ _ hb0)⟩,dz (K:=K) (a:=b) (xs:=es.map V.int) (λi σ H2=>∃ u1 u2 u3 u4 u5:Option V,σ=[⇑↥r,⇑(.int s),⇑(.int p),⇑(.int q),⇑↥A,⇑↥B,⇑(.int (0+(↑(aT sh (es.take i)):Int))),u1,u2,u3,u4,u5]/\H2 A=⇑(.lst ((dY sh p q (es.take i)).map V.int))/\H2 B=⇑(.lst ((mF sh p q (es.take i)).map V.int))/\aJ H H2) ⟨none,none,none,none,none,rfl,(by rw[List.take_zero,z0.1];exact sB _ _ ah),(by rw[List.take_zero,z0.2];exact ah),s1⟩ (by rintro i σ H2 _ ⟨_,_,_,_,_,_,_,_,s2⟩;exact bC.of (s2 _ _ hb0)) ?_ ?_⟩
 ·rintro i x σ H2 hi ⟨u1,u2,u3,u4,u5,rfl,PM,hB2,s2⟩;rw[gf]at hi;let⟨e,ex,rfl⟩:=Option.map_eq_some_iff.mp hi;have st:=take_snoc ex;have eA:=Gr sh p q (es.take i) e;have eB:=Gs sh p q (es.take i) e;rw[← st]at eA eB
  have eF:(0+(↑(aT sh (es.take (i+1))):Int))=0+(↑(aT sh (es.take i)):Int)+↑(bq sh e):=by
   rw[st,pP,cF,cX,cX];simp[aT]
  have lA0:=IT sh p q (es.take i);have lB0:=IU sh p q (es.take i);have l1:=pV sh es (i+1);have l0:=pV sh es i
  have le:↑(bq sh e)<=↑(aT sh (es.take (i+1))):=by
   rw[st,pP,cF,cX,cX];lia
  have lkk:=Tn sh p q (0+(↑(aT sh (es.take i)):Int)) e;have ltt:=To sh p q (0+(↑(aT sh (es.take i)):Int)) e;have t0:↑(es.take i)<=↑es:=by rw[gO];lia
  generalize hf:0+(↑(aT sh (es.take i)):Int)=fi at *;refine⟨Y,Y,av,r,af,e,sh,rk,rfl,R.same s2,cZ,rS,BL,hbd,wX,λafx=>?_,λo H3 h3 s3 ho=>?_⟩
  ·have nx:jf af s (-1-e):=⟨h0,es,eO,bu.mpr ⟨Q,by rw[show -1-(-1-e)=e by lia];exact oA ex⟩⟩;have:=wX _ _ nx;exact⟨(rS.Fq nx).2,Q⟩
  have G8:=s3 _ _ PM;have Tj:=s3 _ _ hB2;exists Y,Y,o,Y,.inl (bC.of h3),Z;rw[cy];exists Y,Y,Z,P,rfl;exists Y,Y,P,rfl,Y,Z
  have lo0:(if p-fi > 0 then p-fi else 0).toNat=(p-fi).toNat/\0<=(if p-fi > 0 then p-fi else 0):=by
   split <;> lia
  have Ae:(p=q\/(fi+(↑(bq sh e):Int))<=p\/q<=fi)->(aM H3 A (.lst ((dY sh p q (es.take i)).map V.int++[.int e]))) A=⇑(.lst ((dY sh p q (es.take (i+1))).map V.int))/\(aM H3 A (.lst ((dY sh p q (es.take i)).map V.int++[.int e]))) B=⇑(.lst ((mF sh p q (es.take (i+1))).map V.int)):=λc=>by
   have e1:Qt sh p q fi e=[e]:=by
    unfold Qt OV;rcases c with c|c
    ·rw[if_pos c]
    ·rw[if_pos c];split <;> rfl
   have e2:Qu sh p q fi e=[]:=by
    unfold Qu Uu;rcases c with c|c
    ·rw[if_pos c]
    ·rw[if_pos c];split <;> rfl
   rw[ah,aG AS.symm,eA,eB,e1,e2,ic,gU];exact⟨rfl,Tj⟩
  have stf:∀ y:Option V,[⇑(V.ref r),⇑(.int s),⇑(.int p),⇑(.int q),⇑↥A,⇑↥B,⇑(.int (fi+(↑(bq sh e):Int))),⇑(.int e),⇑↥o,⇑(.int (fi+(↑(bq sh e):Int))),⇑(.int (if p-fi > 0 then p-fi else 0)),y]=[⇑↥r,⇑(.int s),⇑(.int p),⇑(.int q),⇑↥A,⇑↥B,⇑(.int (0+(↑(aT sh (es.take (i+1))):Int))),⇑(.int e),⇑↥o,⇑(.int (fi+(↑(bq sh e):Int))),⇑(.int (if p-fi > 0 then p-fi else 0)),y]:=λy=>by rw[eF]
  have keepR:∀ c:(p=q\/(fi+(↑(bq sh e):Int))<=p\/q<=fi),∃ u1 u2 u3 u4 u5:Option V,[⇑(V.ref r),⇑(.int s),⇑(.int p),⇑(.int q),⇑↥A,⇑↥B,⇑(.int (fi+(↑(bq sh e):Int))),⇑(.int e),⇑↥o,⇑(.int (fi+(↑(bq sh e):Int))),⇑(.int (if p-fi > 0 then p-fi else 0)),⇑(.int ((if q<(fi+(↑(bq sh e):Int)) then q else (fi+(↑(bq sh e):Int)))-fi))]=[⇑↥r,⇑(.int s),⇑(.int p),⇑(.int q),⇑↥A,⇑↥B,⇑(.int (0+(↑(aT sh (es.take (i+1))):Int))),u1,u2,u3,u4,u5]/\(aM H3 A (.lst ((dY sh p q (es.take i)).map V.int++[.int e]))) A=⇑(.lst ((dY sh p q (es.take (i+1))).map V.int))/\(aM H3 A (.lst ((dY sh p q (es.take i)).map V.int++[.int e]))) B=⇑(.lst ((mF sh p q (es.take (i+1))).map V.int))/\aJ H (aM H3 A (.lst ((dY sh p q (es.take i)).map V.int++[.int e]))):=λc =>
   ⟨K,P,stf _,(Ae c).1,(Ae c).2,bQ hA (s2.trans s3) (aK A _ _)⟩
  have mA:↑((dY sh p q (es.take i)).map V.int)<sizeLine:=aQ (by rw[cy];lia);refine⟨Y,Y,rfl,Y,cT (λc1=>ji ?_) (λc1=>?_)⟩
  ·exact⟨Y,.inl ⟨rfl,_,bC.of G8⟩,Y,A,Z,G8,mA,Y,keepR (.inl (V.int.inj (of_decide_eq_true c1)))⟩
  have UE:¬ p=q:=λz=>c1 (by rw[z];exact decide_eq_true rfl);refine⟨Y,Y,Z,Y,cT (λc2=>ji ?_) (λc2=>?_)⟩
  ·exact⟨Y,.inl ⟨rfl,_,bC.of G8⟩,Y,A,Z,G8,mA,Y,keepR (.inr (.inl (of_decide_eq_true c2)))⟩
  have Mg:¬ (fi+(↑(bq sh e):Int))<=p:=λz=>c2 (decide_eq_true z);refine⟨Y,Y,Z,Y,cT (λc3=>?_) (λc3=>?_)⟩
  ·exact⟨Y,.inl ⟨rfl,_,bC.of G8⟩,Y,A,Z,G8,mA,Y,keepR (.inr (.inr (of_decide_eq_true c3)))⟩
  have c3':¬ q<=fi:=λz=>c3 (decide_eq_true z);have n1:¬ ((fi+(↑(bq sh e):Int))<=p\/q<=fi):=λz=>z.elim Mg c3'
  have hh:((if q<(fi+(↑(bq sh e):Int)) then q else (fi+(↑(bq sh e):Int)))-fi).toNat=min ↑(bq sh e) (q-fi).toNat/\0<=(if q<(fi+(↑(bq sh e):Int)) then q else (fi+(↑(bq sh e):Int)))-fi:=by
   split <;> lia
  have pq:p<q:=by lia
  have m9:¬ (p<=fi/\(fi+(↑(bq sh e):Int))<=q)->Qt sh p q fi e=(bq sh e).take (if p-fi > 0 then p-fi else 0).toNat++(bq sh e).drop ((if q<(fi+(↑(bq sh e):Int)) then q else (fi+(↑(bq sh e):Int)))-fi).toNat/\Qu sh p q fi e=((bq sh e).take ((if q<(fi+(↑(bq sh e):Int)) then q else (fi+(↑(bq sh e):Int)))-fi).toNat).drop (if p-fi > 0 then p-fi else 0).toNat:=λc4=>by
   unfold Qt Qu OV Uu;rw[if_neg UE,if_neg UE,if_neg n1,if_neg n1,if_neg c4,if_neg c4,lo0.1,hh.1];rcases Nat.le_total (q-fi).toNat ↑(bq sh e) with z|z
   ·rw[Nat.min_eq_right z];exact⟨V⟩
   ·rw[Nat.min_eq_left z,List.drop_of_length_le z,List.drop_of_length_le (fT _),tK z,tK (fT _)];exact⟨V⟩
  refine⟨Y,Y,Z,Y,Ol (λz=>⟨Y,Y,Z,Y,z⟩) (λc6=>?_) (λc6=>?_)⟩
  ·have e1:Qt sh p q fi e=[]:=by unfold Qt OV;rw[if_neg UE,if_neg n1,if_pos c6]
   have e2:Qu sh p q fi e=[e]:=by unfold Qu Uu;rw[if_neg UE,if_neg n1,if_pos c6]
   refine⟨Y,.inl ⟨rfl,_,bC.of Tj⟩,Y,B,Z,Tj,aQ (by rw[cy];lia),Y,K,P,stf _,?_,?_,bQ MU (s2.trans s3) (aK B _ _)⟩
   ·rw[aG AS,eA,e1,ic];exact G8
   ·rw[ah,eB,e2,gU];rfl
  ·let⟨r1,r2⟩:=m9 c6;rw[r1,cX]at lkk;rw[r2]at ltt;refine⟨Y,.inl ⟨rfl,_,bC.of G8⟩,Y,Y,Y,o,Y,bC.of h3,λq1 Yc=>?_⟩;rw[uC _ lo0.2,← List.map_take];have n4:aJ H3 (aM H3 q1 (.lst (((bq sh e).take (if p-fi > 0 then p-fi else 0).toNat).map V.int))):=au Yc _;refine⟨Y,Y,Y,o,Y,bC.of (n4 _ _ h3),λq2 eK=>?_⟩;rw[xo _ hh.2,← List.map_drop];have n5:aJ _ (aM (aM H3 q1 (.lst (((bq sh e).take (if p-fi > 0 then p-fi else 0).toNat).map V.int))) q2 (.lst (((bq sh e).drop ((if q<(fi+(↑(bq sh e):Int)) then q else (fi+(↑(bq sh e):Int)))-fi).toNat).map V.int))):=au eK _;refine⟨q1,q2,Z,n5 _ _ ah,ah,(by rw[cy,cy];exact gQ (aQ ∅)),λq3 G6=>?_⟩;have n6:aJ _ (aM (aM (aM H3 q1 (.lst (((bq sh e).take (if p-fi > 0 then p-fi else 0).toNat).map V.int))) q2 (.lst (((bq sh e).drop ((if q<(fi+(↑(bq sh e):Int)) then q else (fi+(↑(bq sh e):Int)))-fi).toNat).map V.int))) q3 (.lst (((bq sh e).take (if p-fi > 0 then p-fi else 0).toNat).map V.int++((bq sh e).drop ((if q<(fi+(↑(bq sh e):Int)) then q else (fi+(↑(bq sh e):Int)))-fi).toNat).map V.int))):=au G6 _;have n46:=n4.trans (n5.trans n6);have h63:(aM (aM (aM H3 q1 (.lst (((bq sh e).take (if p-fi > 0 then p-fi else 0).toNat).map V.int))) q2 (.lst (((bq sh e).drop ((if q<(fi+(↑(bq sh e):Int)) then q else (fi+(↑(bq sh e):Int)))-fi).toNat).map V.int))) q3 (.lst (((bq sh e).take (if p-fi > 0 then p-fi else 0).toNat).map V.int++((bq sh e).drop ((if q<(fi+(↑(bq sh e):Int)) then q else (fi+(↑(bq sh e):Int)))-fi).toNat).map V.int))) q3=⇑(.lst (((bq sh e).take (if p-fi > 0 then p-fi else 0).toNat).map V.int++((bq sh e).drop ((if q<(fi+(↑(bq sh e):Int)) then q else (fi+(↑(bq sh e):Int)))-fi).toNat).map V.int)):=ah;generalize aM (aM (aM H3 q1 (.lst (((bq sh e).take (if p-fi > 0 then p-fi else 0).toNat).map V.int))) q2 (.lst (((bq sh e).drop ((if q<(fi+(↑(bq sh e):Int)) then q else (fi+(↑(bq sh e):Int)))-fi).toNat).map V.int))) q3 (.lst (((bq sh e).take (if p-fi > 0 then p-fi else 0).toNat).map V.int++((bq sh e).drop ((if q<(fi+(↑(bq sh e):Int)) then q else (fi+(↑(bq sh e):Int)))-fi).toNat).map V.int))=H6 at n46 h63;refine⟨A,q3,Z,n46 _ _ G8,h63,(by rw[cX,cy,cy,cy];exact gQ (aQ ∅)),?_⟩;have k7:cL A H6 (aM H6 A (.lst ((dY sh p q (es.take i)).map V.int++(((bq sh e).take (if p-fi > 0 then p-fi else 0).toNat).map V.int++((bq sh e).drop ((if q<(fi+(↑(bq sh e):Int)) then q else (fi+(↑(bq sh e):Int)))-fi).toNat).map V.int)))):=aK A _ _;have hA7:(aM H6 A (.lst ((dY sh p q (es.take i)).map V.int++(((bq sh e).take (if p-fi > 0 then p-fi else 0).toNat).map V.int++((bq sh e).drop ((if q<(fi+(↑(bq sh e):Int)) then q else (fi+(↑(bq sh e):Int)))-fi).toNat).map V.int)))) A=⇑(.lst ((dY sh p q (es.take (i+1))).map V.int)):=by rw[ah,eA,r1,gU,gU]
   have no:o≠A:=(az PM ho).symm;have h37:=k7 _ _ (n46 _ _ h3) no;have hB7:=k7 _ _ (n46 _ _ Tj) AS.symm;have sm7:=bQ hA (s2.trans (s3.trans n46)) k7;generalize aM H6 A (.lst ((dY sh p q (es.take i)).map V.int++(((bq sh e).take (if p-fi > 0 then p-fi else 0).toNat).map V.int++((bq sh e).drop ((if q<(fi+(↑(bq sh e):Int)) then q else (fi+(↑(bq sh e):Int)))-fi).toNat).map V.int)))=H7 at k7 hA7 h37 hB7 sm7;refine⟨Y,.inl ⟨rfl,_,bC.of hB7⟩,Y,Y,Y,Y,Y,o,Y,bC.of h37,λq4 MT=>?_⟩;rw[Pd _ lo0.2 hh.2,← List.map_take,← List.map_drop];refine⟨B,q4,Z,au MT _ _ _ hB7,ah,(by rw[cy,cy];exact gQ (aQ ∅)),?_⟩;refine⟨Y,K,P,stf _,?_,?_,bQ MU (sm7.trans (au MT _)) (aK B _ _)⟩
   ·rw[aG AS];exact au MT _ _ _ hA7
   ·rw[ah,eB,r2,gU]
 ·rintro σ H2 ⟨u1,u2,u3,u4,u5,rfl,PM,hB2,s2⟩;rw[cy,gP]at PM hB2;refine⟨Y,Y,qU,λt ht=>k es t A B _ eO ah (au ht _ _ _ PM) (au ht _ _ _ hB2) (s2.trans (au ht _)) hA MU AS⟩
class inductive rZ(d:Nat)
 | mk (av:Addr->Prop) (r:Addr) (af:cD) (x:Int) (f:Int->Int) (rk:Int->Nat) (_:vs=[↥r,.int x]) (_:iy av H r af) (_:↑af<=1000) (_:fJ af) (_:0<=x) (_:x<↑af) (_:Weighs af f) (_:(∀ x y,jf af x y->rk y<rk x)) (_:rk x<d) (_:Q (.int (f x)) H)
theorem iE:aH ["_law_rows","_law_sheet","_law_total","_law_entry"] ["_law_rows","_law_sheet"] (aB nC):=fc
def xM(D:Ds K mg aX aZ C CS CW CB CT CD aA XG ci){n:Nat}(Bo:aY P w K mg zt cP (n+1) (aX 83) (aZ 83) ["_law_rows","_law_sheet"] (rZ n)):aY P w K mg zt cP (n+2) (aX 83) (aZ 83) ["_law_rows","_law_sheet"] (rZ (n+1)):=by
 specialize fH D.Sb.F iE;let⟨av,r,af,x,f,rk,rfl,R,cZ,rS,x0,x1,hf,wX,hd,k⟩:=h;obtain⟨es,eO⟩:∃ es,af[x.toNat]?=⇑es:=⟨_,qB ∅⟩;let⟨yc,b,yb,Dt,hb0,hrl⟩:=R.get eO
 have vt:qF yc x=⇑↥b:=by
  have z:=dF Dt;rw[show ((x.toNat:Nat):Int)=x by lia]at z;exact z
 exists _,(ao (aW (i:=2) iE.nd aC) (ao (dN PassesOwn.never rfl (cz (bI bw (pv 0) (pv 1))) (bW (i:=3) iE.nd) (ao (aW (i:=2) iE.nd (bJ eU (pv 2) aC)) (ay (bS (br mS (pv 3) aC (bx _)) (ay (aW (i:=2) iE.nd (bJ eU (pv 2) (aI D.Sb Bo hr (aa (pv 0) (aa (bJ cS (gm dQ aC) (pv 3)) aj)))))) bG)))) (ay (aN (pv 2)))));refine⟨Y,Y,r,K,V,bC.of yb,vt,b,rfl,⟨_,bC.of hb0⟩,dz (K:=K) (a:=b) (xs:=es.map V.int) (λi σ H2=>∃ u:Option V,σ=[⇑↥r,⇑(.int x),⇑(.int (eG f (es.take i))),u]/\H2=H) ⟨none,V⟩ (λi σ H2 _ ⟨P,e⟩=>by rw[e];exact bC.of hb0) ?_ ?_⟩
 ·rintro i e σ H2 hi ⟨u,rfl,rfl⟩;rw[gf]at hi;let⟨e,ex,rfl⟩:=Option.map_eq_some_iff.mp hi
  have st:eG f (es.take (i+1))=eG f (es.take i)+(if e<0 then 1+f (-1-e) else 1):=by
   rw[take_snoc ex];unfold eG;rw[gU,List.sum_append];simp
  exists Y,Z;refine⟨Y,Z,Y,cT (λc=>?_) (λc=>?_)⟩
  ·have c':e<0:=of_decide_eq_true c;have G7:jf af x (-1-e):=⟨x0,es,eO,bu.mpr ⟨Q,by rw[show -1-(-1-e)=e by lia];exact oA ex⟩⟩;let⟨y0,y1⟩:=rS.Fq G7;have rky:=wX _ _ G7;exists Y,Y,Y,Y,Z,av,r,af,-1-e,f,rk,rfl,R,cZ,rS,y0,y1,hf,wX,Q,Z;refine⟨⇑(.int e),?_,rfl⟩;rw[st,if_pos c'];show [⇑(V.ref r),⇑(V.int x),⇑(V.int (eG f (es.take i)+1+f (-1-e))),⇑(V.int e)]=_;rw[show eG f (es.take i)+1+f (-1-e)=eG f (es.take i)+(1+f (-1-e)) by lia]
  ·have c':¬ e<0:=λz=>c (decide_eq_true z);refine⟨⇑(.int e),?_,rfl⟩;rw[st,if_neg c'];rfl
 ·rintro σ H2 ⟨u,rfl,rfl⟩;rw[cy,gP,← hf x es x0 eO];exact⟨Y,k⟩
theorem mJ(D:Ds K mg aX aZ C CS CW CB CT CD aA XG ci):∀ n:Nat,aY P w K mg zt cP (n+1) (aX 83) (aZ 83) ["_law_rows","_law_sheet"] (rZ n)
 | 0=>by
  have no:∀ vs H Q E,¬ rZ 0 vs H Q E:=λvs H Q E h=>by
   let⟨_,_,_,_,_,_,_,_,_,_,_,_,_,_,h,_⟩:=h;exact Nat.not_lt_zero _ h
  exact⟨λvs H Q E h=>absurd h (no vs H Q E),λA zn s H args us vs Q E _ _ _ _ h=>absurd h (no vs H Q E)⟩
 | n+1=>xM D (mJ D n)
theorem nL:aH ["_law_numbers","_law_row","_law_number"] ["_law_numbers"] (aB pG):=fc
theorem Bp:‹(1,84,["_law_numbers"],Q4)›:=λD=>by
 specialize fH D.aaw.F nL;let⟨r,ns,rfl,hr1,cZ,k⟩:=h;exists _,(ao (aW (i:=1) nL.nd (bO aj)) (ao (dN PassesOwn.never rfl (cz (pv 0)) (bW (i:=2) nL.nd) (ay (bS (PW.pt (oJ (br BF (ef D.T.dP (pv 1)) aC (bx _)) (mR (br gn (bI dh (bI bw (pv 1) (gm dQ aC)) aC) (pv 2) (bx _))))) (ay (nh (eL (aa (bI dh (bI bw (pv 1) (gm dQ aC)) aC) (aa (bJ eU (pv 2) aC) aj))) (oN (pv 1) (gm dQ aC) jB))) (ay (aV (dI qm jQ jR bT (pv 1) (aa (eL (aa (pv 2) (aa (bJ eU (pv 2) aC) aj))) aj))))))) (ay (aN (pv 1)))));refine⟨iZ,λq hq=>?_⟩;have s0:aJ H (aM H q (.lst [])):=au hq _;refine⟨Y,r,rfl,⟨_,bC.of (s0 _ _ hr1)⟩,dz (K:=K) (a:=r) (xs:=ns.map V.int) (λi σ H2=>∃ (bs:List Addr) (u:Option V),σ=[⇑↥r,⇑↥q,u]/\H2 q=⇑(.lst (bs.map V.ref))/\bN H2 bs ((ns.take i).foldl (λt n=>jk t n (n+1)) [])/\aJ H H2) ⟨[],none,rfl,ah,.nil,s0⟩ (by rintro i σ H2 _ ⟨_,_,_,_,_,s⟩;exact bC.of (s _ _ hr1)) ?_ ?_⟩
 ·rintro i x σ H2 hi ⟨bs,u,rfl,eK,hb,s⟩;rw[gf]at hi;let⟨m,em,rfl⟩:=Option.map_eq_some_iff.mp hi;have step:=foldl_take_succ (λt n=>jk t n (n+1)) ns [] i m em
  have bl:↑bs<sizeLine:=by
   have z:=hb.len;have z2:=zF (ns.take i) [];rw[gO]at z2;exact aQ (by simp only[qp]at z2;lia)
  exists Y,q,Y,.inl (bC.of eK),Z,Y;rcases qo ((ns.take i).foldl (λt n=>jk t n (n+1)) []) with hn|⟨rw0,q0,hn⟩
  ·rw[hn]at hb step;have hbs:bs=[]:=List.eq_nil_of_length_eq_zero hb.len;subst hbs;refine dM (dM ?_);refine⟨Y,.inl ⟨rfl,_,bC.of eK⟩,Y,Y,Z,qU,λt ht=>⟨q,Z,au ht _ _ _ eK,(by show 0<sizeLine;decide),?_⟩⟩;let⟨g1,g2,g3⟩:=E6 (st:=m) (en:=m+1) hq s eK hb ht;refine⟨[]++[t],Y,g1,?_,g3⟩;rw[step,lX];exact g2
  ·rw[m6]at hn;rw[hn]at hb step;let⟨cs,a0,rfl,hc,G3⟩:=hb.split;have G6:H2 q=⇑(.lst (cs.map V.ref++[↥a0])):=by rw[eK,gU];rfl
   refine cT (λ_=>?_) (λc=>absurd (decide_eq_true (by rw[cy,cX,qy];lia)) c);refine⟨Y,Y,q,K,V,bC.of G6,eX _ _,a0,K,V,gV.of G3,Vu,Y,rfl,Y,cT (λc2=>?_) (λc2=>?_)⟩
   ·have e2:q0.2=m:=V.int.inj (of_decide_eq_true c2);refine⟨Y,Y,q,K,V,bC.of G6,eX _ _,a0,K,V,gV.of G3,Zh,Y,Z,qU,λt ht=>?_⟩;exists Y,Y,q,P,↑cs,V,au ht _ _ _ G6,N3 cs a0;let⟨g1,g2,g3⟩:=turned (st:=q0.1) (en:=m+1) hq s G6 hc ht;refine⟨cs++[t],Y,g1,?_,g3⟩;rw[step,lY _ e2];exact g2
   ·have e2:¬ q0.2=m:=λz=>c2 (decide_eq_true (congrArg V.int z));refine⟨Y,.inl ⟨rfl,_,bC.of eK⟩,Y,Y,Z,qU,λt ht=>⟨q,Z,au ht _ _ _ eK,(by rw[cy];exact bl),?_⟩⟩;let⟨g1,g2,g3⟩:=E6 (st:=m) (en:=m+1) hq s eK hb ht;refine⟨cs++[a0]++[t],Y,g1,?_,g3⟩;rw[step,lZ _ e2];exact g2
 ·rintro σ H2 ⟨bs,u,rfl,eK,hb,s⟩;refine⟨Y,k q H2 ⟨bs,eK,?_⟩ s hq⟩;rw[cy,gP]at hb;exact hb
class inductive Tp
 | mk (e:Addr) (es:List Int) (_:vs=[↥e]) (_:H e=⇑(.lst (es.map V.int))) (_:↑es<=100000) (_ :
 ∀ (o:Addr) (H':Hp),bR H' ↥o (aO es)->aJ H H'->H o=none->Q ↥o H')
theorem kW:aH ["_law_entries","_law_items","_law_entry"] ["_law_entries"] (aB lW):=fc
theorem yK:‹(1,85,["_law_entries"],Tp)›:=λD=>by
 specialize fH D.aax.F kW;let⟨e,es,rfl,he,cZ,k⟩:=h;exists _,(ao (aW (i:=1) kW.nd (bO aj)) (ao (dN PassesOwn.never rfl (cz (pv 0)) (bW (i:=2) kW.nd) (ay (bS (br mS (pv 2) aC (bx _)) (ay (aV (dI qm jQ jR bT (pv 1) (aa (eL (aa bP (aa (bJ cS (gm dQ aC) (pv 2)) aj))) aj)))) (ay (bS (PW.pt (oJ (br BF (ef D.T.dP (pv 1)) aC (bx _)) (oJ (br gn (bI dh (bI bw (pv 1) (gm dQ aC)) aC) bP (bx _)) (mR (br gn (bI dh (bI bw (pv 1) (gm dQ aC)) aC) (pv 2) (bx _)))))) (ay (nh (eL (aa bP (aa (bI dh (bI bw (pv 1) (gm dQ aC)) aC) (aa (bJ eU (pv 2) aC) aj)))) (oN (pv 1) (gm dQ aC) jB))) (ay (aV (dI qm jQ jR bT (pv 1) (aa (eL (aa bP (aa (pv 2) (aa (bJ eU (pv 2) aC) aj)))) aj))))))))) (ay (aN (pv 1)))));refine⟨iZ,λq hq=>?_⟩;have s0:aJ H (aM H q (.lst [])):=au hq _;refine⟨Y,e,rfl,⟨_,bC.of (s0 _ _ he)⟩,dz (K:=K) (a:=e) (xs:=es.map V.int) (λi σ H2=>∃ (vs:List V) (u:Option V),σ=[⇑↥e,⇑↥q,u]/\H2 q=⇑(.lst vs)/\bV (cH H2) vs ((es.take i).foldl bh [])/\aJ H H2) ⟨[],none,rfl,ah,.nil,s0⟩ (by rintro i σ H2 _ ⟨_,_,_,_,_,s⟩;exact bC.of (s _ _ he)) ?_ ?_⟩
 ·rintro i x σ H2 hi ⟨vs,u,rfl,eK,hb,s⟩;rw[gf]at hi;let⟨x,ex,rfl⟩:=Option.map_eq_some_iff.mp hi;have step:(es.take (i+1)).foldl bh []=bh ((es.take i).foldl bh []) x:=by rw[take_snoc ex,List.foldl_append];rfl
  have bl:↑vs<sizeLine:=by
   have z:=hb.len;have z2:=nY (es.take i) [];rw[gO,qp]at z2;exact aQ ∅
  refine⟨Y,Z,Y,cT (λc=>?_) (λc=>?_)⟩
  ·have c':x<0:=of_decide_eq_true c;rw[bh,if_pos c']at step;refine⟨Y,.inl ⟨rfl,_,bC.of eK⟩,Y,Y,Z,qU,λt ht=>⟨q,Z,au ht _ _ _ eK,bl,?_⟩⟩;refine⟨vs++[↥t],Y,ah,?_,bQ hq (s.trans (au ht _)) (aK q _ _)⟩;rw[step];exact bV.new (it:=.win (-1-x)) eK hb ht _
  ·have c':¬ x<0:=λz=>c (decide_eq_true z);rw[bh,if_neg c']at step;rcases qo ((es.take i).foldl bh []) with hn|⟨t0,l0,hn⟩
   ·rw[hn]at hb step;have hvs:vs=[]:=List.eq_nil_of_length_eq_zero hb.len;subst hvs;refine⟨Y,q,Y,.inl (bC.of eK),Z,Y,dM (dM ?_)⟩;refine⟨Y,.inl ⟨rfl,_,bC.of eK⟩,Y,Y,Z,Ir,λt ht=>⟨q,Z,au ht _ _ _ eK,bl,?_⟩⟩;refine⟨[]++[↥t],Y,ah,?_,bQ hq (s.trans (au ht _)) (aK q _ _)⟩;rw[step];exact bV.new (it:=.aL x (x+1)) eK hb ht _
   ·rw[m6]at hn;rw[hn,uK,List.dropLast_concat]at step;rw[hn]at hb;let⟨us,v0,rfl,hb0,a0,rfl,G3⟩:=hb.split;refine⟨Y,q,Y,.inl (bC.of eK),Z,Y,cT (λ_=>?_) (λz=>absurd (decide_eq_true (by simp)) z)⟩
    cases l0 with
    | win n =>
     refine⟨Y,Y,q,K,V,bC.of eK,eX _ _,a0,K,V,gV.of G3,V,Y,cT (λz=>absurd z (by decide)) (λ_=>dM ?_)⟩;refine⟨Y,.inl ⟨rfl,_,bC.of eK⟩,Y,Y,Z,Ir,λt ht=>⟨q,Z,au ht _ _ _ eK,bl,?_⟩⟩;refine⟨P,rfl,ah,?_,bQ hq (s.trans (au ht _)) (aK q _ _)⟩;rw[step];exact bV.new (it:=.aL x (x+1)) eK hb ht _
    | aL p1 p2 =>
     refine⟨Y,Y,q,K,V,bC.of eK,eX _ _,a0,K,V,gV.of G3,V,Y,cT (λ_=>?_) (λz=>absurd (by decide) z)⟩;refine⟨Y,Y,q,K,V,bC.of eK,eX _ _,a0,K,V,gV.of G3,rfl,Y,rfl,Y,cT (λc2=>?_) (λc2=>?_)⟩
     ·have e2:p2=x:=V.int.inj (of_decide_eq_true c2);refine⟨Y,Y,q,K,V,bC.of eK,eX _ _,a0,K,V,gV.of G3,rfl,Y,Z,Ir,λt ht=>?_⟩;refine⟨Y,Y,q,P,↑us,V,au ht _ _ _ eK,(by rw[cX];exact zB _),?_⟩;rw[zC];refine⟨P,rfl,ah,?_,bQ hq (s.trans (au ht _)) (aK q _ _)⟩;rw[step];show bV _ _ (if p2=x then t0++[aR.aL p1 (x+1)] else _);rw[if_pos e2];exact bV.new (it:=.aL p1 (x+1)) eK hb0 ht _
     ·have e2:¬ p2=x:=λz=>c2 (decide_eq_true (congrArg V.int z));refine⟨Y,.inl ⟨rfl,_,bC.of eK⟩,Y,Y,Z,Ir,λt ht=>⟨q,Z,au ht _ _ _ eK,bl,?_⟩⟩;refine⟨P,rfl,ah,?_,bQ hq (s.trans (au ht _)) (aK q _ _)⟩;rw[step];show bV _ _ (if p2=x then _ else t0++[aR.aL p1 p2]++[aR.aL x (x+1)]);rw[if_neg e2];exact bV.new (it:=.aL x (x+1)) eK hb ht _
 ·rintro σ H2 ⟨vs,u,rfl,eK,hb,s⟩;rw[cy,gP]at hb;exact⟨Y,k q H2 ⟨q,vs,rfl,eK,hb⟩ s hq⟩
def Reach.trans{E:Int->Int->Prop}{a b c:Int}(h:Reach E a b)(g:Reach E b c):Reach E a c:=by
 induction g with
 | one e=>exact .step h e
 | step _ e ih=>exact .step ih e
theorem Gu{p q:Nat->Bool}(h:∀ i,p i=true->q i=true):∀ n,cnt n p<=cnt n q
 | 0=>fT _
 | n+1=>by
  rw[vf,vf];have ih:=Gu h n;by_cases c:p n=true
  ·rw[if_pos c,if_pos (h n c)];lia
  ·rw[if_neg c];lia
open Classical in
def Xw{af:cD}(sd:fJ af)(l:↑af<=40)(h:∀ x,¬ Reach (jf af) x x):sW af:=by
 refine⟨λx=>cnt ↑af λi=>decide (Reach (jf af) x (i:Int)),λx=>jv (zQ _ _) l,λx y n=>?_⟩;let⟨y0,y1⟩:=sd.Fq n;have yy:((y.toNat:Nat):Int)=y:=by lia
 have a:=Gu (p:=λi=>decide (Reach (jf af) y (i:Int))) (q:=λi=>decide (Reach (jf af) x (i:Int))&&decide (i≠y.toNat)) (λi hi=>by
  have r:=of_decide_eq_true hi;rw[Bool.and_eq_true];refine⟨decide_eq_true ((Reach.one n).trans r),decide_eq_true λz=>?_⟩;rw[z,yy]at r
  exact h _ r) ↑af
 have b:=vg y.toNat ↑af (p:=λi=>decide (Reach (jf af) x (i:Int))) (q:=λi=>decide (Reach (jf af) x (i:Int))&&decide (i≠y.toNat)) ∅ (decide_eq_true (by rw[yy];exact .one n)) (λ_=>rfl);show cnt _ _<cnt _ _;lia
def Kz{af:cD}{s:Nat}{es:List Int}{x y:Int}(h:jf (af.set s es) x y)(ne:x.toNat≠s):jf af x y:=by
 let⟨x0,rK,e,hy⟩:=h;rw[List.getElem?_set_ne (λz=>ne z.symm)]at e;exact⟨x0,rK,e,hy⟩
def PV{af:cD}{s:Int}{es:List Int}(s0:0<=s)(R:sW af)(n:¬ Reach (jf (af.set s.toNat es)) s s):∀ x,¬ Reach (jf (af.set s.toNat es)) x x:=by
 have key:∀ {a b:Int},Reach (jf (af.set s.toNat es)) a b->Reach (jf af) a b\/((a=s\/Reach (jf (af.set s.toNat es)) a s)/\Reach (jf (af.set s.toNat es)) s b):=by
  intro a b r
  induction r with
  | one e =>
   by_cases c:a.toNat=s.toNat
   ·have q:a=s:=by have:=e.1;lia
    rw[q]at e;exact .inr ⟨.inl q,.one e⟩
   ·exact .inl (.one (Kz e c))
  | @step y z r e ih =>
   by_cases c:y.toNat=s.toNat
   ·have q:y=s:=by have:=e.1;lia
    rw[q]at r e;exact .inr ⟨.inr r,.one e⟩
   ·rcases ih with i|i
    ·exact .inl (.step i (Kz e c))
    ·exact .inr ⟨i.1,.step i.2 e⟩
 intro x r;rcases key r with z|⟨z|z,y⟩
 ·exact R.irr z
 ·rw[z]at y;exact n y
 ·exact n (y.trans z)
def gu(f:Int->Int)(e:Int)(r:List Int):eG f (e::r)=(if e<0 then 1+f (-1-e) else 1)+eG f r:=by unfold eG;rw[jy,List.sum_cons]
theorem D4{sh:Int->List Int}{f:Int->Int}:∀ {es:List Int},(∀ y∈cM es,(↑(sh y):Int)<=f y)->(↑es:Int)<=eG f es/\(↑(aT sh es):Int)<=eG f es
 | [],_=>by simp[eG,aT]
 | e::r,h=>by
  have ih:=D4 (es:=r) λy hy=>h y (bu.mpr ⟨(bu.mp hy).1,oE _ (bu.mp hy).2⟩);rw[gu,cF,cX,kX];unfold bq;by_cases c:e<0
  ·have z:=h (-1-e) (bu.mpr ⟨Q,by rw[show -1-(-1-e)=e by lia];simp⟩);rw[if_pos c,if_pos c];lia
  ·rw[if_neg c,if_neg c,qy];lia
def vL{af:cD}{sh:Int->List Int}{f:Int->Int}(sd:fJ af)(R:sW af)(hs:qc af sh)(hw:Weighs af f):∀ x:Int,0<=x->∀ es,af[x.toNat]?=⇑es->(↑es:Int)<=f x/\(↑(sh x):Int)<=f x:=by
 let⟨rk,_,hd⟩:=R
 have key:∀ (k:Nat) (x:Int),rk x<k->0<=x->∀ es,af[x.toNat]?=⇑es->(↑es:Int)<=f x/\(↑(sh x):Int)<=f x:=by
  intro k
  induction k with
  | zero=>intro x h;lia
  | succ k ih =>
   intro x hx x0 es he;rw[hw x es x0 he,hs x es x0 he];refine D4 λy hy=>?_;have n:jf af x y:=⟨x0,es,he,hy⟩;let⟨y0,y1⟩:=sd.Fq n;have:=hd _ _ n;exact (ih y ∅ y0 _ (qB ∅)).2
 exact λx=>key (rk x+1) x (Nat.lt_succ_self _)
def PX{af:cD}{sh:Int->List Int}{N:Int->Prop}(rS:fJ af)(wX:sW af)(BL:qc af sh)(hN:∀ es∈af,∀ e∈es,0<=e->N e):∀ x:Int,0<=x->x<↑af->∀ y∈sh x,N y:=by
 let⟨rk,hb,hd⟩:=wX
 have key:∀ (k:Nat) (x:Int),rk x<k->0<=x->x<↑af->∀ y∈sh x,N y:=by
  intro k
  induction k with
  | zero=>intro x h;lia
  | succ k ih =>
   intro x hx x0 x1 y hy;have he:af[x.toNat]?=⇑af[x.toNat]:=qB ∅;rw[BL x _ x0 he]at hy;unfold aT at hy;let⟨e,hm,hy⟩:=List.mem_flatMap.mp hy;unfold bq at hy;by_cases c:e<0
   ·rw[if_pos c]at hy;have nx:jf af x (-1-e):=⟨x0,_,he,bu.mpr ⟨Q,by rw[show -1-(-1-e)=e by lia];exact hm⟩⟩;let⟨a,b⟩:=rS.Fq nx;have:=hd _ _ nx;exact ih _ ∅ a b y hy
   ·rw[if_neg c]at hy;rw[List.mem_singleton.mp hy];exact hN _ (oA he) e hm ∅
 exact λx=>key (rk x+1) x (Nat.lt_succ_self _)
def qg(n m:Nat)(e:Int):Prop:=(0<=e/\e<(n:Nat))\/(e<0/\-1-e<(m:Nat))
structure Good(n:Nat)(af:cD):Prop where
 en:∀ es∈af,∀ e∈es,qg n ↑af e
 rk:sW af
 ln:↑af<=40
 wt:∃ f,Weighs af f/\∀ x:Int,0<=x->x<↑af->f x<=200
theorem Ay{n:Nat}{af:cD}(h:∀ es∈af,∀ e∈es,qg n ↑af e):fJ af:=λes he y hy=>by
 let⟨y0,hm⟩:=bu.mp hy;rcases h es he _ hm with z|z
 ·lia
 ·have:=z.2;lia
structure Gd(n:Nat)(af:cD)(sh:Int->List Int):Prop where
 sn:Seen af sh
 in_:∀ x:Int,0<=x->x<↑af->∀ a∈sh x,0<=a/\a<(n:Nat)
 sl:∀ x:Int,0<=x->x<↑af->↑(sh x)<=200
 es:∀ es∈af,↑es<=200
 en:∀ es∈af,∀ e∈es,qg n ↑af e
 ln:↑af<=40
def Good.es{n:Nat}{af:cD}(h:Good n af):∀ es∈af,↑es<=200:=by
 let⟨en,rk,ln,f,hw,hm⟩:=h;let⟨sh,hs⟩:=Gq rk;intro es he;let⟨i,hi⟩:=List.mem_iff_getElem?.mp he;have il:=(List.getElem?_eq_some_iff.mp hi).1;have a:=vL (Ay en) rk hs hw (i:Int) ∅ es (by rw[Int.toNat_natCast];exact hi);have:=hm (i:Int) ∅ ∅;lia
def Good.KA{n:Nat}{af:cD}(h:Good n af):∃ sh,Gd n af sh:=by
 have hes:=h.es;let⟨en,rk,ln,f,hw,hm⟩:=h;let⟨sh,hs⟩:=Gq rk;have sd:=Ay en
 have sl:∀ x:Int,0<=x->x<↑af->↑(sh x)<=200:=λx x0 x1=>by
  have a:=vL sd rk hs hw x x0 _ (qB ∅);have:=hm x x0 x1;lia
 refine⟨sh,⟨λes he=>by have:=hes es he;lia,sd,rk,hs,λx x0 x1=>by have:=sl x x0 x1;lia⟩,PX sd rk hs (λes he e hm e0=>?_),sl,hes,en,ln⟩;rcases en es he e hm with z|z
 ·exact z
 ·lia
def Good.bears{n:Nat}{af:cD}(h:Good n af):∃ f,qZ af f:=by
 have hes:=h.es;let⟨en,rk,ln,f,hw,hm⟩:=h;exact⟨f,Q,λes he=>by have:=hes es he;lia,Ay en,rk,hw,hm⟩
def Az{n:Nat}{af:cD}{s:Nat}{es:List Int}(h:∀ es∈af,∀ e∈es,qg n ↑af e)(g:∀ e∈es,qg n ↑af e):∀ rK∈af.set s es,∀ e∈rK,qg n ↑(af.set s es) e:=by
 intro rK hm;rw[List.length_set];rcases List.mem_or_eq_of_mem_set hm with z|z
 ·exact h rK z
 ·rw[z];exact g
theorem PY{sh:Int->List Int}{N:Int->Prop}(hs:∀ e,N e->∀ x∈bq sh e,N x)(p:Int):∀ (es:List Int) (f:Int),(∀ e∈es,N e)->∀ x,x∈aE sh p f es\/x∈bE sh p f es->N x
 | [],_,_=>λx hx=>by rcases hx with z | z <;> cases z
 | e::r,f,h=>by
  intro x hx;rw[aE,bE,List.mem_append,List.mem_append]at hx;have he:=hs e (h e (by simp));have ih:=PY hs p r (f+↑(bq sh e)) (λy hy=>h y (oE _ hy)) x;rcases hx with (z|z)|(z|z)
  ·split at z
   ·rw[List.mem_singleton.mp z];exact h e (by simp)
   ·split at z
    ·cases z
    ·exact he x (List.mem_of_mem_take z)
  ·exact ih (.inl z)
  ·split at z
   ·cases z
   ·split at z
    ·rw[List.mem_singleton.mp z];exact h e (by simp)
    ·exact he x (List.mem_of_mem_drop z)
  ·exact ih (.inr z)
def r9{sh:Int->List Int}{N:Int->Prop}(hs:∀ e,N e->∀ x∈bq sh e,N x){p:Int}{es new:List Int}(h:∀ e∈es,N e)(g:∀ e∈new,N e):∀ e∈eV sh p es new,N e:=by
 intro x hx;unfold eV at hx;split at hx
 ·exact h x hx
 ·rw[List.mem_append,List.mem_append]at hx;rcases hx with (z|z)|z
  ·exact PY hs p es 0 h x (.inl z)
  ·exact g x z
  ·exact PY hs p es 0 h x (.inr z)
def Gd.cl{n:Nat}{af:cD}{sh:Int->List Int}(h:Gd n af sh):∀ e,qg n ↑af e->∀ x∈bq sh e,qg n ↑af x:=by
 intro e he x hx;unfold bq at hx;rcases he with z|z
 ·rw[if_neg ∅]at hx;rw[List.mem_singleton.mp hx];exact .inl z
 ·rw[if_pos z.1]at hx;exact .inl (h.in_ _ ∅ z.2 x hx)
def Gd.own{n:Nat}{af:cD}{sh:Int->List Int}(h:Gd n af sh)(s:Int):∀ e∈gG.own af s,qg n ↑af e:=by
 unfold gG.own
 cases e:af[s.toNat]? with
 | none=>exact λ_ z=>nomatch z
 | some es=>exact h.en es (oA e)
def sW.IW{af:cD}(h:sW af)(s:Int):¬ Reach (jf af) s s:=by
 let⟨rk,_,hd⟩:=h
 have z:∀ y,Reach (jf af) s y->rk y<rk s:=λy hy=>by
  induction hy with
  | one e=>exact hd _ _ e
  | step _ e ih=>exact Nat.lt_trans (hd _ _ e) ih
 exact λq=>Nat.lt_irrefl _ (z s q)
def MD{X:Cx}(hc:X.calm=true):j8 X (.builtin "max") (λxs H Q=>∃ (p:Addr) (ns:List Int),xs=[↥p]/\bC X.K H p (ns.map V.int)/\0<↑ns/\∀ M,M∈ns->(∀ a∈ns,a<=M)->Q (.int M) H):=by
 intro ak s σ H xs us Q I r h;let⟨p,ns,rfl,hq,ne,q⟩:=h;let⟨u,rfl,rx⟩:=r.one;cases (show u=Value.ref p from rx);let⟨aP,rv,pl,hz⟩:=I.list hq;have hi:PyProof.Rows.IntsAre aP ns:=intsAre_of rv;let⟨xs,e⟩:=hi.allInts.items;have hl:=pl.isList
 have MO:ns=xs.toList.map (·.1):=by
  rw[← hi.numsOf,← PySem.nums_intItems,← e]
 have hsz:0<xs.size:=by
  have h3:=ne;rw[MO,cy,Array.length_toList]at h3;exact h3
 rw[e]at hl;refine PySem.max_intList (I.ok.hd hc) hl hsz λv h' tk hv hk=>?_;let⟨t,rfl⟩:=PySem.intItems_at hv;let⟨h1,h2⟩:=PySem.argBest_gt (PySem.numAt xs) (xs.size-1);refine⟨.int _,H,I.kept hk,⟨t,rfl⟩,q _ ?_ λa ha=>?_⟩
 ·rw[MO,PySem.numAt_eq];exact PySem.getD_mem (by rw[cy,Array.length_toList];lia)
 ·rw[MO]at ha;let⟨j,hj,rfl⟩:=PySem.mem_getD ha;rw[cy,Array.length_toList]at hj;rw[← PySem.numAt_eq];exact h2 j ∅
class inductive D5
 | mk (av:Addr->Prop) (r:Addr) (af:cD) (s:Int) (f:Int->Int) (_:vs=[↥r,.int s]) (_:iy av H r af) (_:↑af<=40) (_:∀ es∈af,↑es<=100000) (_:fJ af) (_:0<=s) (_:s<↑af) (_:sW af) (_:Weighs af f) (_:∀ (b:Bool) (H':Hp),aJ H H'->(b=true->Pf af f)->(b=false->Pg af f)->Q (.bl b) H')
theorem Gv:aH ["_law_rows","_law_sheet"] ["_law_rows","_law_sheet"] (aB pH):=fc
theorem Gw:‹(43,86,["_law_rows","_law_sheet"],D5)›:=λD=>by
 refine fH D.WC.F Gv λcJ A zn s0 H vs Q E hr h=>?_;let⟨av,r,af,s,f,rfl,R,ln,he,sd,s0,s1,R1,hf,k⟩:=h;refine⟨_,(ao (bS (br wm (pv 1) (aI D.Wz (rD D) hr (aa (pv 0) (aa (pv 1) aj))) rfl) (ay (aN iS)) bG) (ay (aN (gW gy (cu (MD rfl) rfl D.T.Fz PyProof.Rows.boot_max (aa (gI (N:=["_law_other","_law_rows"]) (mq (sc:=aB pH) (NX:=["_law_rows","_law_sheet"]) (jx:=[none,some 0]) rfl rfl rfl nofun nofun rfl nofun rfl nofun) rfl (gK rfl D.T.iN (aa (ef D.T.dP (pv 0)) aj)) (λ_ _ _ _ _ _=>(bW (i:=0) (show List.Nodup (["_law_other","_law_rows"]:List Str) by decide +kernel))) (λ_ _ _ _ _ _=>gX) (λ_ _ _ _ _ _=>(aI D.Sb (mJ D 41) hr (aa (pv 1) (aa (pv 0) aj))))) aj)) aC (bx _))))),?_⟩;refine⟨Y,Y,Y,av,r,af,s,rfl,R,Q,he,sd,s0,s1,λL o H1 ho sm Xx=>?_⟩;exists o,Y,.inl (bC.of ho),rfl,lH L,Y;rw[rR];rw[decide_eq_false λhm=>R1.IW s ((Xx s).mp hm)];refine dM ?_;let⟨rk,rb,dn⟩:=id R1;have Rs:=R.same sm;let⟨vs,hr1,al⟩:=id Rs;have lv:=al.len;have gN:∀ i:Nat,↑((List.range i).map λj:Nat=>f (j:Int))=i:=λi=>by rw[cy,List.length_range]
 refine⟨Y,r,Y,.inl (bC.of hr1),Y,Q,Q,λacc cK=>qS (lo:=0) (k:=((↑vs:Nat):Int).toNat) (λi σ H2=>∃ u:Option V,σ=[u,⇑↥r]/\H2 acc=⇑(.lst (((List.range i).map λj:Nat=>f (j:Int)).map V.int))/\aJ H1 H2) ⟨none,rfl,ah,au cK _⟩ ?_ ?_⟩
 ·rintro i σ H2 hi ⟨u,rfl,ha,s2⟩;have il:i<↑af:=by lia
  refine⟨Y,Y,av,r,af,0+(i:Int),f,rk,rfl,Rs.same s2,Q,sd,Q,Q,hf,dn,by have:=rb (0+(i:Int));lia,_,ha,(by rw[cy,gN];exact aQ ∅),Y,?_,bQ cK s2 (aK acc _ _)⟩;rw[ah,List.range_succ,gU,gU,Int.zero_add];rfl
 ·rintro σ H2 ⟨u,rfl,ha,s2⟩;refine⟨acc,Y,bC.of ha,by rw[gN];lia,λM hMm hM=>⟨Z,?_⟩⟩;refine k _ H2 (sm.trans s2) (λz x x0 x1=>?_) λz=>?_
  ·have y:=hM (f x) (List.mem_map.mpr ⟨x.toNat,List.mem_range.mpr ∅,by rw[show ((x.toNat:Nat):Int)=x by lia]⟩);have:=of_decide_eq_true z;lia
  ·let⟨j,hj,e⟩:=List.mem_map.mp hMm;have:=List.mem_range.mp hj;have:=of_decide_eq_false z;exact⟨(j:Int),Q,Q,by rw[e];lia⟩
def vM(f:Int->Int)(a b:List Int):eG f (a++b)=eG f a+eG f b:=by unfold eG;rw[gU,List.sum_append]
theorem zb(f:Int->Int):∀ {xs:List Int},(∀ x∈xs,0<=x)->eG f xs=(↑xs:Int)
 | [],_=>rfl
 | x::r,h=>by
  have:=h x (by simp);rw[gu,zb f λy hy=>h y (oE _ hy),if_neg ∅,kX];lia
theorem KC{sh:Int->List Int}{f:Int->Int}(p:Int):∀ (es:List Int) (n:Int),(∀ y∈cM es,(↑(sh y):Int)<=f y/\∀ a∈sh y,0<=a)->eG f (aE sh p n es)+eG f (bE sh p n es)<=eG f es
 | [],_,_=>by simp[aE,bE,eG]
 | e::r,n,h=>by
  have ih:=KC (sh:=sh) (f:=f) p r (n+↑(bq sh e)) λy hy=>h y (bu.mpr ⟨(bu.mp hy).1,oE _ (bu.mp hy).2⟩);rw[aE,bE,vM,vM,gu];by_cases c1:n+(↑(bq sh e):Int)<=p
  ·rw[if_pos c1,if_pos c1,gu];have:eG f []=0:=rfl;lia
  rw[if_neg c1,if_neg c1];by_cases c2:p<=n
  ·rw[if_pos c2,if_pos c2,gu];have:eG f []=0:=rfl;lia
  rw[if_neg c2,if_neg c2];by_cases c:e<0
  ·let⟨h1,h2⟩:=h (-1-e) (bu.mpr ⟨Q,by rw[show -1-(-1-e)=e by lia];simp⟩);have rK:bq sh e=sh (-1-e):=if_pos c;rw[rK,zb f λx hx=>h2 x (List.mem_of_mem_take hx),zb f λx hx=>h2 x (List.mem_of_mem_drop hx),if_pos c,gO,List.length_drop];rw[rK]at ih;lia
  ·have rK:bq sh e=[e]:=if_neg c;rw[rK]at c1;simp only[kX,qp]at c1;lia
def abr{sh:Int->List Int}{f:Int->Int}{p:Int}{es new:List Int}(h:∀ y∈cM es,(↑(sh y):Int)<=f y/\∀ a∈sh y,0<=a):eG f (eV sh p es new)<=eG f es+eG f new:=by
 unfold eV;split
 ·rename_i e;rw[e];have:eG f []=0:=rfl;lia
 ·have:=KC p es 0 h;rw[vM,vM];lia
theorem Gx{f g:Int->Int}{k:Int}(k1:1<=k):∀ {es:List Int},(∀ y∈cM es,1+g y<=k*(1+f y))->eG g es<=k*eG f es
 | [],_=>by simp[eG]
 | e::r,h=>by
  have ih:=Gx (f:=f) (g:=g) k1 (es:=r) λy hy=>h y (bu.mpr ⟨(bu.mp hy).1,oE _ (bu.mp hy).2⟩);rw[gu,gu,Int.mul_add];by_cases c:e<0
  ·have:=h (-1-e) (bu.mpr ⟨Q,by rw[show -1-(-1-e)=e by lia];simp⟩);rw[if_pos c,if_pos c];lia
  ·rw[if_neg c,if_neg c];lia
def abt{af:cD}{f g:Int->Int}{k:Int}{es:List Int}(R:sW (af.set k.toNat es))(sd:fJ (af.set k.toNat es))(S:Weighs af f)(S':Weighs (af.set k.toNat es) g)(k0:0<=k):∀ x:Int,0<=x->x<↑af->x≠k->¬ Reach (jf (af.set k.toNat es)) x k->g x=f x:=by
 let⟨rk,rb,dn⟩:=R
 have key:∀ (m:Nat) (x:Int),rk x<m->0<=x->x<↑af->x≠k->¬ Reach (jf (af.set k.toNat es)) x k->g x=f x:=by
  intro m
  induction m with
  | zero=>intro x h;lia
  | succ m ih =>
   intro x hx x0 x1 nk nr;have he:af[x.toNat]?=⇑af[x.toNat]:=qB ∅;have he':(af.set k.toNat es)[x.toNat]?=⇑af[x.toNat]:=by rw[List.getElem?_set_ne (λz=>nk ∅)];exact he
   rw[S x _ x0 he,S' x _ x0 he'];refine ux λy hy=>?_;have n:jf (af.set k.toNat es) x y:=⟨x0,_,he',hy⟩;let⟨y0,y1⟩:=sd.Fq n;rw[List.length_set]at y1;have:=dn _ _ n;exact ih y ∅ y0 y1 (λz=>nr (by subst z;exact .one n)) λz=>nr ((Reach.one n).trans z)
 exact λx=>key (rk x+1) x (Nat.lt_succ_self _)
def abu{af:cD}{f g:Int->Int}{s:Int}{es:List Int}(hw:Weighs af f)(m:∀ x:Int,0<=x->x<↑af->0<=f x/\f x<=200)(R:sW (af.set s.toNat es))(sd:fJ (af.set s.toNat es))(hg:Weighs (af.set s.toNat es) g)(s0:0<=s)(s1:s<↑af)(e6:eG f es<=600):∀ x:Int,0<=x->x<↑af->g x<=1000000:=by
 have abv:(af.set s.toNat es)[s.toNat]?=⇑es:=by rw[List.getElem?_set,if_pos rfl,if_pos ∅]
 have gs:g s<=600:=by
  rw[hg s _ s0 abv]
  have:eG g es=eG f es:=ux λy hy=>by
   have n:jf (af.set s.toNat es) s y:=⟨s0,_,abv,hy⟩;let⟨y0,y1⟩:=sd.Fq n;rw[List.length_set]at y1;exact abt R sd hw hg s0 y y0 y1 (λz=>R.IW s (by subst z;exact .one n)) λz=>R.IW s ((Reach.one n).trans z)
  lia
 let⟨rk,rb,dn⟩:=R
 have key:∀ (k:Nat) (x:Int),rk x<k->0<=x->x<↑af->1+g x<=601*(1+f x):=by
  intro k
  induction k with
  | zero=>intro x h;lia
  | succ k ih =>
   intro x hx x0 x1;have fx:=m x x0 x1;by_cases c:x=s
   ·rw[c]at fx ⊢;lia
   have he:af[x.toNat]?=⇑af[x.toNat]:=qB ∅;have he':(af.set s.toNat es)[x.toNat]?=⇑af[x.toNat]:=by rw[List.getElem?_set_ne (λz=>c ∅)];exact he
   have z:=Gx (f:=f) (g:=g) (k:=601) ∅ (es:=af[x.toNat]) λy hy=>by
    have n:jf (af.set s.toNat es) x y:=⟨x0,_,he',hy⟩;let⟨y0,y1⟩:=sd.Fq n;rw[List.length_set]at y1;have:=dn _ _ n;exact ih y ∅ y0 y1
   rw[← hw x _ x0 he,← hg x _ x0 he']at z;lia
 intro x x0 x1;have:=key (rk x+1) x (Nat.lt_succ_self _) x0 x1;have:=m x x0 x1;lia
theorem PZ{n:Nat}{row:Row}(h:∀ z∈row,0<=z.1/\z.1<z.2/\z.2<=(n:Nat)):uF n row=true:=List.all_eq_true.mpr λq hq=>by
 have:=h q hq;unfold Qs;simp only[Bool.and_eq_true,decide_eq_true_eq];lia
def Gy{i:Int}(h0:0<=i)(h1:i<=20000):Ib i:=by
 have a:(20000:Int)<10^60:=by decide
 exact⟨Q,Q⟩
def vW.m{C:Addr}{U:Addr->Prop}{H:Hp}{x:Addr}{pe:iG}{aF:iH}{aL:iF}{nW:Nat}{bZ:Row}{m:Str}{k:Prop}(L:vW C CS CW CB U H x pe aF aL nW bZ)(q:k)(h:∀ a b c d e f:V,List.lookup m [("well",a),("shelf",b),("blots",c),("knots",d),("dues",e),("book",f)]=none:=by intros;rfl):Vd C m ↥x H k:=by
 let⟨S',Xm,d',X8,MY,bl',kn',du',bk',dS',CO,GZ,dw',sg',ow',pw',db',tb',IP,LU⟩:=id L;exact⟨x,d',Y,LU.L.hx,h ..,q⟩
def P0{a b:Str}(h:a≠b){A B:Prop}(z:B):if decide (V.str a=V.str b)=true then A else B:=by
 rw[if_neg λy=>h (V.str.inj (of_decide_eq_true y))];exact z
def KD{a:Str}{A B:Prop}(z:A):if decide (V.str a=V.str a)=true then A else B:=by
 rw[if_pos (decide_eq_true rfl)];exact z
def MV.at_{W:Addr->Prop}{H:Hp}{a:Addr}{af:cD}(h:MV W ik ps H a af):iy (λ_=>False) H a af:=by
 let⟨_,_,_,vs,hv,al⟩:=h;exact⟨vs,hv,al.mono λv es ⟨b,e,K,hb⟩=>⟨b,e,λz=>z,hb⟩⟩
def AA{af:cD}{s:Int}(h:y9 ↑af s):af[s.toNat]?=⇑(own af s):=by
 have:s.toNat<↑af:=by have:=h.1;have:=h.2;lia
 unfold own;rw[qB this];rfl
class inductive P1
 | mk (l c w:Addr) (W:Addr->Prop) (aL:iF) (pq:iG) (rq:cD) (_:vs=[↥l,↥w]) (_:dJ H l c) (_:Wo W H w aL pq rq) (_:(∀ a,W a->a≠l/\a≠c)) (_:↑aL<=50000) (_ :
 ∀ (r:Addr) (row:Row) (H':Hp),↑row<=2->cB H' r row->(∀ p∈row,0<=p.1/\p.1<p.2/\p.2<=↑aL/\p.2<=p.1+40)->H r=none->dJ H' l c->cL l H H'->Q ↥r H')
theorem gv:aH ["_law_src_here","_law_world_here","_law_many","_law_row","_law_k","_law_start","_law_span"] ["_law_src_here","_law_world_here"] (aB nE):=fc
theorem AB:‹(2,87,["_law_src_here","_law_world_here"],P1)›:=λD=>by
 have cG:aY P w K mg zt cP 1 _ _ Yu wG:=fB D;specialize fH D.aay.F gv;let⟨l,c,w,W,aL,pq,rq,rfl,S,wo,dw,b1,k⟩:=h;have hu:=gF hr;exists _,(ao (aW (i:=2) gv.nd (ef D.T.dP (gJ hu (pv 1) bP))) (ao (aW (i:=3) gv.nd (bO aj)) (ao (dN PassesOwn.never rfl (gK rfl D.T.iN (aa (bJ Hs (aI D.AR cG hr (aa (pv 0) (aa aC aj))) (cu (rM rfl) rfl D.T.Ke PyProof.Rows.boot_min (aa aC (aa (pv 2) aj)))) aj)) (bW (i:=4) gv.nd) (ao (aW (i:=5) gv.nd (aI D.AR cG hr (aa (pv 0) (aa (cu (rL rfl) rfl D.T.Fz PyProof.Rows.boot_max (aa aC (aa (pv 2) aj))) aj)))) (ao (aW (i:=6) gv.nd (bJ eU aC (aI D.AR cG hr (aa (pv 0) (aa (cu (rL rfl) rfl D.T.Fz PyProof.Rows.boot_max (aa aC (aa (cu (rM rfl) rfl D.T.Ke PyProof.Rows.boot_min (aa (bI bw (bO (aa aC (aa aC (aa aC (aa aC aj))))) (aI D.AR cG hr (aa (pv 0) (aa aC aj)))) (aa (bJ cS (pv 2) (pv 5)) aj))) aj))) aj))))) (ay (aV (dI qm jQ jR bT (pv 3) (aa (eL (aa (pv 5) (aa (bJ eU (pv 5) (pv 6)) aj))) aj))))))) (ay (aN (pv 3))))));let⟨ik,rw,ps,vl,wu⟩:=id wo;let⟨as,Et,pa⟩:=id wu.hi;have la:=Paired.length pa;have zi:=jw.k (k:=kI) wu.hw;rw[show cC (tG ik rw ps vl) kI=⇑↥ik by kernel_rfl]at zi;exists Y,w,Y,zi,ik,Y,.inl (bC.of Et);refine⟨iZ,λr yb=>?_⟩;have s1:=au yb (.lst []);have r1:(aM H r (.lst [])) r=⇑(.lst []):=ah;have nr:=S.ne yb;have S1:=S.same s1;generalize aM H r (.lst [])=H1 at s1 r1 S1;refine⟨Y,l,c,3,rfl,S1,E,E,λv H2 v0 v1 S2 k2=>?_⟩;rw[show ↑(as.map V.ref)=↑aL by rw[cy,la]];exists Y,P,rfl,Z,.inl ⟨Q,Q⟩
 have hm:∃ n:Nat,(v*(if (↑aL:Int)<1 then (↑aL:Int) else 1))=n/\n<=2/\(0<n->1<=↑aL):=by
  split
  ·rename_i z;refine⟨0,?_,Q,Q⟩;rw[show (↑aL:Int)=0 by lia];exact Int.mul_zero _
  ·exact⟨v.toNat,by rw[Int.mul_one];lia,Q,λ_=>by lia⟩
 let⟨n,en,n2,n1⟩:=hm
 have hM:(if (↑aL:Int) > 1 then (↑aL:Int) else 1)=if 1<=↑aL then (↑aL:Int) else 1:=by split <;> split <;> lia
 refine⟨n,congrArg (λz=>[V.int z]) en,Q,Q,jS (lo:=0) (n:=((n:Nat):Int).toNat) (λj σ H3=>∃ (u4 u5 u6:Option V) (row:Row),σ=[⇑↥l,⇑↥w,⇑(.int (↑aL:Nat)),⇑↥r,u4,u5,u6]/\cB H3 r row/\↑row=j/\(∀ p∈row,0<=p.1/\p.1<p.2/\p.2<=↑aL/\p.2<=p.1+40)/\dJ H3 l c/\cL l H H3) ⟨none,none,none,[],rfl,⟨[],(k2 r nr.1.symm).trans r1,.nil⟩,rfl,(λp hp=>nomatch hp),S2,(gG.aJ.keep s1).trans (bY k2)⟩ ?_ ?_⟩
 ·rintro j σ H3 hj ⟨u4,u5,u6,row,rfl,R3,lr,hp,S3,K3⟩;have hk:1<=↑aL:=n1 ∅;rw[if_pos hk]at hM;refine⟨Y,Y,P,rfl,l,c,Y,S3,(by rw[hM];lia),(by rw[hM];lia),λa H4 a0 a1 S4 k4=>?_⟩;rw[hM]at a1;refine⟨Y,LM,λt ht=>?_⟩;have s5:=au ht (.lst [.int 4,.int 4,.int 4,.int 40]);have h5:(aM H4 t (.lst [.int 4,.int 4,.int 4,.int 40])) t=⇑(.lst [.int 4,.int 4,.int 4,.int 40]):=ah;have nt:=S4.ne ht;have S5:=S4.same s5;generalize aM H4 t (.lst [.int 4,.int 4,.int 4,.int 40])=H5 at s5 h5 S5;refine⟨Y,l,c,4,rfl,S5,E,E,λi H6 i0 i1 S6 k6=>?_⟩;let⟨z,hz,ez⟩:=Gk (xs:=[V.int 4,.int 4,.int 4,.int 40]) i0 (by show i<4;lia)
  obtain⟨q,rfl,q0,q1⟩:∃ q:Int,z=.int q/\4<=q/\q<=40:=by
   rcases List.mem_cons.mp hz with y|hz
   ·exact⟨4,y,E,E⟩
   rcases List.mem_cons.mp hz with y|hz
   ·exact⟨4,y,E,E⟩
   rcases List.mem_cons.mp hz with y|hz
   ·exact⟨4,y,E,E⟩
   ·exact⟨40,List.mem_singleton.mp hz,E,E⟩
  exists t,K,V,bC.of ((k6 t nt.1.symm).trans h5),ez
  have hX:∃ x:Int,(if (if (↑aL:Int)-a<q then (↑aL:Int)-a else q) > 1 then (if (↑aL:Int)-a<q then (↑aL:Int)-a else q) else 1)=x/\1<=x/\x<=↑aL-a/\x<=40:=⟨Y,by split <;> split <;> lia,by split <;> split <;> lia,by split <;> split <;> lia⟩
  let⟨M,eM,M1,M2,M3⟩:=hX;refine⟨Y,Y,Z,P,rfl,P,rfl,l,c,Y,S6,(by rw[eM];lia),(by rw[eM];lia),λb H7 b0 b1 S7 k7=>⟨Z,?_⟩⟩;rw[eM]at b1;have K7:cL l H3 H7:=(((bY k4).trans (gG.aJ.keep s5)).trans (bY k6)).trans (bY k7);let⟨bs,hb,pb⟩:=R3;let⟨ls,hl⟩:=S3.lst;have hb7:=K7 _ _ hb nr.1.symm;have pb7:bN H7 bs row:=pb.tups λa xs e=>K7 _ _ e (cY e hl);have lb:=Paired.length pb;refine⟨Y,.inl ⟨rfl,_,bC.of hb7⟩,Y,Y,Y,Z,qU,λp Ub=>⟨r,Z,au Ub _ _ _ hb7,(by rw[cy];exact aQ ∅),?_⟩⟩;have sp:=au Ub (.tup [.int a,.int (a+(1+b))]);have p8:(aM H7 p (.tup [.int a,.int (a+(1+b))])) p=⇑(.tup [.int a,.int (a+(1+b))]):=ah;have hb8:=sp _ _ hb7;have S8:=S7.same sp;have K8:cL l H (aM H7 p (.tup [.int a,.int (a+(1+b))])):=(K3.trans K7).trans (gG.aJ.keep sp);have pb8:=bN.snoc (p:=(a,a+(1+b))) (pb7.same sp) p8;refine⟨K,row++[(a,a+(1+b))],rfl,⟨bs++[p],by rw[gU];exact ah,pb8.tups λy xs e=>?_⟩,by rw[cX,lr];rfl,λy hy=>?_,?_,λy ob e n=>?_⟩
  ·exact (aG (cY e hb8)).trans e
  ·rcases List.mem_append.mp hy with hy|hy
   ·exact hp y hy
   ·rw[List.mem_singleton.mp hy];exact⟨a0,by show a<a+(1+b);lia,by show a+(1+b)<=_;lia,by show a+(1+b)<=a+40;lia⟩
  ·let⟨n,ns,i,d,r',e1,e2,h3⟩:=S8;exact⟨n,ns,i,d,r',(aG nr.1).trans e1,(aG nr.2).trans e2,h3⟩
  ·exact (aG (az e yb)).trans (K8 _ _ e n)
 rintro σ H3 ⟨u4,u5,u6,row,rfl,R3,lr,hp,S3,K3⟩;exact⟨Y,k r row H3 ∅ R3 hp yb S3 K3⟩
def Tq{H3 H7:Hp}{t:Addr}{h:Int}{cs:List Nat}{i ch:Nat}{bs:List Addr}(cK:H3 acc=none)(hi:cs[i]?=⇑ch)(hb:H7 acc=⇑(.lst (bs.map V.ref)))(pb:Paired (Kv H7) bs (pS h (cs.take i)))(s7:aJ H3 H7)(ht:H7 t=none):(aM (aM H7 t (.tup [.int h,yU ch])) acc (.lst (bs.map V.ref++[↥t]))) acc=⇑(.lst ((bs++[t]).map V.ref))/\Paired (Kv (aM (aM H7 t (.tup [.int h,yU ch])) acc (.lst (bs.map V.ref++[↥t])))) (bs++[t]) (pS h (cs.take (i+1)))/\aJ H3 (aM (aM H7 t (.tup [.int h,yU ch])) acc (.lst (bs.map V.ref++[↥t]))):=by
 refine⟨?_,?_,λb ob e=>?_⟩
 ·rw[ah,gU];rfl
 ·have nta:t≠acc:=(az hb ht).symm;rw[take_snoc hi];unfold pS;rw[gU];refine DS (Paired.Hj pb λa q e=>?_) ?_
  ·show aM _ acc _ a=_;rw[aG (cY e hb)];exact au ht _ _ _ e
  ·show aM _ acc _ t=_;rw[aG nta];exact ah
 ·rw[aG (az e cK)];exact au ht _ _ _ (s7 _ _ e)
class inductive ME(C CS CW CB:Addr)
 | mk (l c w x:Addr) (U W:Addr->Prop) (pe:iG) (af:cD) (pq:iG) (rq:cD) (aF:iH) (aL:iF) (nW:Nat) (bZ:Row) (_:vs=[↥l,↥w,↥x]) (_:qx C CS CW CB H l c w x U W pe af pq rq aF aL nW bZ) (_:↑pe<=800) (_:↑pq<=800) (_:↑af<=50) (_:↑aF<=800) (_:↑aL<=50000) (_:nW<=800) (_ :
 ∀ (U':Addr->Prop) (H':Hp) (h:Int) (cs:List Nat) (dm:iH),↑cs<=60->↑dm=↑aF+1->qx C CS CW CB H' l c w x U' W (pe++[af]) af (pq++[rq]) rq dm (aL++pS h cs) (nW+1) bZ->Ky l U W U' W H H'->Q (.bl true) H')
def lpT:TS:=λD σ H=>∃ (l c:Addr) (s1 s2 s3 s4 s6:Option V) (h:Int),σ=[⇑↥l,s1,s2,s3,s4,⇑(.int h),s6]/\dJ H l c/\qt h/\∀ (h':Int) (H':Hp),qt h'->dJ H' l c->(∀ a,a≠l->H' a=H a)->D.nx [⇑↥l,s1,s2,s3,s4,⇑(.int h'),s6] H'
theorem ju:aH ["_law_src_here","_law_world_here","_law_house","_law_many","_law_text_here","_law_hand","_law_start"] ["_law_src_here","_law_world_here","_law_house"] (aB pI):=fc
theorem Gz:‹(5,88,["_law_src_here","_law_world_here","_law_house"],(ME C CS CW CB))›:=λD=>by
 have cG:aY P w K mg zt cP 1 _ _ Yu wG:=fB D;specialize fH D.aaz.F ju;let⟨l,c,w,x,U,W,pe,af,pq,rq,aF,aL,nW,bZ,rfl,St,b1,b1',b2,b3,b4,b5,k⟩:=h;have hu:=gF hr;refine⟨_,(ao (aW (i:=3) ju.nd (bI bw (bO (aa aC (aa aC (aa aC (aa aC (aa aC aj)))))) (aI D.AR cG hr (aa (pv 0) (aa aC aj))))) (ao (aW (i:=4) ju.nd (aI D.aat (Gi D) hr (aa (pv 0) (aa (aI D.AR cG hr (aa (pv 0) (aa (bJ eU (pv 3) aC) aj))) aj)))) (ao (aW (i:=5) ju.nd (aI D.AR cG hr (aa (pv 0) (aa aC aj)))) (ao (HW (t':=lpT) (bS (br gn (aI D.AR cG hr (aa (pv 0) (aa aC aj))) aC (bx _)) (ay (aW (i:=5) ju.nd (aI D.AR cG hr (aa (pv 0) (aa (bJ M8 aC aC) aj))))) bG) ?b3) (ao (aW (i:=6) ju.nd (ef D.T.dP (gJ hu (pv 1) bP))) (ao (aV (dI qm PySem.F.slot_list_extend PySem.F.type_list_extend jV (gJ hu (pv 1) bP) (aa (gI (N:=["_law_sign_here","_law_hand"]) (mq (sc:=aB pI) (NX:=["_law_src_here","_law_world_here","_law_house","_law_many","_law_text_here","_law_hand","_law_start"]) (jx:=[none,some 5]) rfl rfl rfl nofun nofun rfl nofun rfl nofun) rfl (VY (pv 4)) (λ_ _ _ _ _ _=>(bW (i:=0) (show List.Nodup (["_law_sign_here","_law_hand"]:List Str) by decide +kernel))) (λ_ _ _ _ _ _=>gX) (λ_ _ _ _ _ _=>(eL (aa (pv 1) (aa (pv 0) aj))))) aj))) (ao (aV (aI D.LQ (kC D) hr (aa (pv 1) (aa (gJ hu (pv 1) bP) aj)))) (ay (aN (aI D.MR (ki D 2) hr (aa (eN (pv 2) D.aS D.aaf (yH D) hr cj (aa (pv 5) (aa (pv 4) aj))) (aa (eL (aa (pv 6) (aa (bJ eU (pv 6) (cu uV rfl D.T.dP PySem.boot_len (aa (pv 4) aj))) aj))) aj)))))))))))),?_⟩
 case b3 =>
  rintro D σ H ⟨l,c,s1,s2,s3,s4,s6,h,rfl,S,fh,k⟩;refine⟨Y,l,c,4,rfl,S,E,E,λv H1 v0 v1 S1 k1=>⟨rfl,Y,cT (λ_=>?_) (λ_=>k h H1 fh S1 k1)⟩⟩;refine⟨Y,Z,⟨E,E,E⟩,l,c,Y,S1,E,E,λv2 H2 q0 q1 S2 k2=>?_⟩;rw[show (10:Int)^(59:Int).toNat=10^59 from rfl]at q1;exact k v2 H2 ⟨q0,Int.lt_trans q1 (by decide)⟩ S2 λy hy=>(k2 y hy).trans (k1 y hy)
 refine⟨aeu,λt ht=>?_⟩;have s1:=au ht (.lst [.int 1,.int 3,.int 5,.int 8,.int 60]);have h1:(aM H t (.lst [.int 1,.int 3,.int 5,.int 8,.int 60])) t=⇑(.lst [.int 1,.int 3,.int 5,.int 8,.int 60]):=ah;have nt:=St.src.ne ht;generalize aM H t (.lst [.int 1,.int 3,.int 5,.int 8,.int 60])=H1 at s1 h1;have Eu:=St.same s1;refine⟨Y,l,c,5,rfl,Eu.src,E,E,λi H2 i0 i1 S2 k2=>?_⟩;have G9:=Eu.mv (bY k2) S2;let⟨z,hz,ez⟩:=Gk (xs:=[V.int 1,.int 3,.int 5,.int 8,.int 60]) i0 (by show i<5;lia)
 obtain⟨tn,rfl,Uv,tn1⟩:∃ j:Int,z=.int j/\0<=j/\j<=60:=by
  have key:∀ y∈[V.int 1,.int 3,.int 5,.int 8,.int 60],∃ j:Int,y=.int j/\0<=j/\j<=60:=by
   intro y hy;rcases List.mem_cons.mp hy with q|hy
   ·exact⟨1,q,E,E⟩
   rcases List.mem_cons.mp hy with q|hy
   ·exact⟨3,q,E,E⟩
   rcases List.mem_cons.mp hy with q|hy
   ·exact⟨5,q,E,E⟩
   rcases List.mem_cons.mp hy with q|hy
   ·exact⟨8,q,E,E⟩
   ·exact⟨60,List.mem_singleton.mp hy,E,E⟩
  exact key z hz
 exists t,K,V,bC.of ((k2 t nt.1.symm).trans h1),ez;refine⟨Y,Y,Y,Z,l,c,Y,S2,Q,Q,λm H3 m0 m1 S3 k3=>?_⟩;have GA:=G9.mv (bY k3) S3;refine⟨l,c,m.toNat,by rw[show ((m.toNat:Nat):Int)=m by lia];rfl,S3,Q,λcs H4 QH S4 K4=>?_⟩;have Hf:=GA.mv K4 S4;refine⟨Y,l,c,3,rfl,S4,E,E,λh0 H5 p0 p1 S5 k5=>?_⟩;have Hg:=Hf.mv (bY k5) S5;refine⟨l,c,K,P,h0,rfl,S5,⟨p0,Q⟩,λh H6 fh S6 k6=>?_⟩;have Ew:=Hg.mv (bY k6) S6;have K16:cL l H H6:=((((((gG.aJ.keep s1).trans (bY k2)).trans (bY k3)).trans K4).trans (bY k5)).trans (bY k6));let⟨ik,rw,ps,vl,wu⟩:=id Ew.wo;let⟨as,Et,pa⟩:=id wu.hi;have la:=Paired.length pa;have zi:=jw.k (k:=kI) wu.hw;rw[show cC (tG ik rw ps vl) kI=⇑↥ik by kernel_rfl]at zi;exists Y,w,Y,zi,ik,Y,.inl (bC.of Et);refine⟨Y,w,Y,zi,.inl ⟨rfl,_,bC.of Et⟩,Y,cs,rfl,λacc cK=>LI (λj σ H7=>∃ (u:Option V) (bs:List Addr),σ=[u,⇑(.int h)]/\H7 acc=⇑(.lst (bs.map V.ref))/\Paired (Kv H7) bs (pS h (cs.take j))/\aJ H6 H7) ⟨none,[],rfl,ah,.nil,au cK _⟩ ?_ ?_⟩
 ·rintro j ch σ H7 hj ⟨u,bs,rfl,ha,pb,s7⟩;have lb:=Paired.length pb;rw[rX,gO]at lb;refine⟨Y,Y,qU,λt ht=>⟨_,au ht _ _ _ ha,(by rw[cy];exact aQ ∅),_,bs++[t],rfl,Tq cK hj ha pb s7 ht⟩⟩
 rintro σ H7 ⟨u,bs,rfl,ha,pb,s7⟩;rw[gP]at pb;have lb:=Paired.length pb;rw[rX]at lb;have abw:=s7 _ _ Et;refine⟨ik,acc,Z,abw,ha,(by rw[cy,cy];exact gQ (aQ ∅)),?_⟩;rw[← gU];have k8:cL ik H7 (aM H7 ik (.lst ((as++bs).map V.ref))):=aK ik _ _;have i8:(aM H7 ik (.lst ((as++bs).map V.ref))) ik=⇑(.lst ((as++bs).map V.ref)):=ah;generalize aM H7 ik (.lst ((as++bs).map V.ref))=H8 at k8 i8;have P4:∀ a ob,H6 a=⇑ob->a≠ik->H8 a=⇑ob:=λa ob e n=>k8 _ _ (s7 _ _ e) n;have t68:∀ a xs,H6 a=⇑(.tup xs)->H8 a=⇑(.tup xs):=λa xs e=>P4 _ _ e (cY e Et);have Xd:∀ a xs,H7 a=⇑(.tup xs)->H8 a=⇑(.tup xs):=λa xs e=>k8 _ _ e (cY e abw);have w8:H8 w=⇑(.dK (tG ik rw ps vl)):=P4 _ _ wu.hw (cY wu.hw Et);have hr8:MV W ik ps H8 rw rq:=wu.hr.fr (λ_ z=>z) λa xs e _ n _=>P4 _ _ e n
 have wo8:Bj W H8 w ik rw ps vl (aL++pS h cs) pq rq:=by
  let⟨UA,hp,al⟩:=wu.hp;refine⟨wu.ww,wu.wi,wu.wp,wu.wv,λa z=>?_,w8,⟨as++bs,i8,Bh (Paired.Hj pa λa q e=>t68 _ _ e) (Paired.Hj pb λa q e=>Xd _ _ e)⟩,hr8,⟨UA,P4 _ _ hp wu.ne.symm,al.mono λv rs ⟨a,e,q⟩=>⟨a,e,q.fr (λ_ y=>y) λa xs e _ n _=>P4 _ _ e n⟩⟩,wu.ne,wu.lst,P4 _ _ wu.hv wu.nv.1,wu.nv⟩;by_cases e:a=ik
  ·rw[e];exact⟨_,i8⟩
  ·let⟨ob,e2⟩:=wu.al a z;exact⟨ob,P4 _ _ e2 e⟩
 have afH:=Ew.MW.fr (λa ob e z=>P4 _ _ e (λq=>(Ew.du a z).1 (by rw[q];exact wu.wi))) t68
 have afI:dJ H8 l c:=by
  let⟨n,ns,i,d,r,e1,e2,h3⟩:=S6;exact⟨n,ns,i,d,r,P4 _ _ e1 (λq=>(Ew.dw ik wu.wi).1 q.symm),P4 _ _ e2 (λq=>(Ew.dw ik wu.wi).2 q.symm),h3⟩
 have zr:=jw.k (k:=kR) w8;rw[show cC (tG ik rw ps vl) kR=⇑↥rw by kernel_rfl]at zr;refine⟨Y,Y,w,Y,zr,W,w,rw,aL++pS h cs,pq,rq,rq,rfl,⟨ik,rw,ps,vl,wo8⟩,Q,λik' vU ⟨jU,vl',e⟩=>?_,λH9 Ym Yn tp9 _=>?_⟩
 ·rw[w8]at e;simp only[Option.some.injEq,HO.dK.injEq,tG,List.cons.injEq,Prod.mk.injEq,V.ref.injEq,true_and,and_true]at e;let⟨rfl,rfl,rfl,rfl⟩:=e;exact hr8
 have abx:=afH.fr (λa ob e z=>Yn _ _ e (Ew.du a z).1) tp9
 have Tr:dJ H9 l c:=by
  let⟨n,ns,i,d,r,e1,e2,h3⟩:=afI;exact⟨n,ns,i,d,r,Yn _ _ e1 (λq=>(Ew.dw l q).1 rfl),Yn _ _ e2 (λq=>(Ew.dw c q).2 rfl),h3⟩
 let⟨S',Xm,d',X8,MY,bl',kn',du',bk',dS',CO,GZ,dw',sg',ow',pw',db',tb',IP,LU⟩:=id abx;refine⟨Y,x,d',Y,LU.L.hx,rfl,Y,Y,U,x,pe,aF,aL,nW,bZ,h,cs,af,rfl,abx,fh,Q,Q,Q,Ew.lst,b2,Q,Q,λU' q MP aby GB hq=>?_⟩;refine⟨Y,Y,Y,fk cs,rfl,(by rw[pN];exact gQ (aQ ∅)),Z,qU,λt2 Ih=>?_⟩;refine⟨P,rfl,.inr ⟨false,q,t2,Z,au Ih _ _ _ hq,ah,rfl,λi u v eu ev=>?_⟩,λZq afJ=>?_⟩
 ·match i,eu,ev with
  | 0,eu,ev =>
   cases eu;cases ev;rw[show ↑(as.map V.ref)=↑aL by rw[cy,la]];exact Eqv.int _
  | 1,eu,ev =>
   cases eu;cases ev;rw[show (↑(aL++pS h cs):Int)=(↑(as.map V.ref):Int)+(↑(fk cs):Int) by rw[cy,la,pN,cX,rX];lia];exact Eqv.int _
 have mO:aJ MP Zq:=λa ob e=>afJ _ _ (au Ih _ _ _ e);have Xe:∀ a ob,H a=⇑ob->a≠l->¬ W a->H9 a=⇑ob:=λa ob e n z=>Yn _ _ (P4 _ _ (K16 _ _ e n) (λq=>z (by rw[q];exact wu.wi))) z
 have f09:∀ a,H9 a=none->H a=none:=by
  intro a e
  cases ea:H a with
  | none=>rfl
  | some ob =>
   exfalso;by_cases n:a=l
   ·let⟨_,ns,i,d,r,e1,_⟩:=Tr;rw[n,e1]at e;cases e
   by_cases z:W a
   ·let⟨ob,e2⟩:=Ym.al z;rw[e2]at e;cases e
   rw[Xe _ _ ea n z]at e;cases e
 have abz:dJ Zq l c:=by
  let⟨n,ns,i,d,r,e1,e2,h3⟩:=Tr;exact⟨n,ns,i,d,r,mO _ _ (GB.2.1 _ _ e1 (λq=>(Ew.du l q).2.1 rfl)),mO _ _ (GB.2.1 _ _ e2 (λq=>(Ew.du c q).2.2 rfl)),h3⟩
 refine k U' Zq h cs _ ∅ (by rw[cX];rfl) ⟨abz,aby.fr (λa ob e _=>mO _ _ e) (λa xs e=>mO _ _ e),(by simp),Ym.fr (λa ob e z=>mO _ _ (GB.2.1 _ _ e (λy=>(Ew.du a y).1 z))) (λa xs e=>mO _ _ (GB.2.2 _ _ e)),λa z=>?_,Ew.dw⟩ ⟨λa z=>z.elim (λz=>(GB.1 a z).elim .inl λy=>.inr (.inr (f09 a y))) (λz=>.inr (.inl z)),λa ob e n y z=>mO _ _ (GB.2.1 _ _ (Xe _ _ e n z) y),λa xs e=>?_⟩
 ·rcases GB.1 a z with y|y
  ·exact Ew.du a y
  ·refine⟨λz=>?_,λq=>?_,λq=>?_⟩
   ·let⟨ob,e2⟩:=Ym.al z;rw[e2]at y;cases y
   ·let⟨_,ns,i,d,r,e1,_⟩:=Tr;rw[q,e1]at y;cases y
   ·let⟨_,ns,i,d,r,_,e1,_⟩:=Tr;rw[q,e1]at y;cases y
 ·let⟨ls,hl⟩:=St.src.lst;exact mO _ _ (GB.2.2 _ _ (tp9 _ _ (t68 _ _ (K16 _ _ e (cY e hl)))))
class inductive AD(C CS CW CB:Addr)
 | mk (l c w x:Addr) (U W:Addr->Prop) (pe:iG) (af:cD) (pq:iG) (rq:cD) (aF:iH) (aL:iF) (nW:Nat) (bZ:Row) (_:vs=[↥w,↥x]) (_:qx C CS CW CB H l c w x U W pe af pq rq aF aL nW bZ) (_:↑pe<=800) (_:↑pq<=800) (_:↑af<40) (_:↑rq=↑af) (_:↑aF<=800) (_:(∃ f,qZ (af++[[]]) f)) (_ :
 ∀ (U' W':Addr->Prop) (H':Hp) (dm:iH),↑dm=↑aF+1->qx C CS CW CB H' l c w x U' W' (pe++[af++[[]]]) (af++[[]]) (pq++[rq++[[]]]) (rq++[[]]) dm aL nW bZ->Ky l U W U' W' H H'->Q (.bl true) H')
theorem D6:aH ["_law_world_here","_law_house"] ["_law_world_here","_law_house"] (aB qN):=fc
theorem vN:‹(8,89,["_law_world_here","_law_house"],(AD C CS CW CB))›:=λD=>by
 specialize fH D.WD.F D6;let⟨l,c,w,x,U,W,pe,af,pq,rq,aF,aL,nW,bZ,rfl,St,b1,b1',b2,b2',b3,B,k⟩:=h;have hu:=gF hr;exists _,(ao (aV (aI D.LQ (kC D) hr (aa (pv 0) (aa (bJ jC (gJ hu (pv 0) bP) (bO (aa (bO aj) aj))) aj)))) (ay (aN (aI D.MR (ki D 1) hr (aa (fQ (pv 1) D.aS D.aac (xG D) hr cj) (aa (bJ cS (ef D.T.dP (gJ hu (pv 0) bP)) aC) aj))))));let⟨ik,rw,ps,vl,wu⟩:=id St.wo;have zr:=jw.k (k:=kR) wu.hw;rw[show cC (tG ik rw ps vl) kR=⇑↥rw by kernel_rfl]at zr;exists Y,Y,w,Y,zr;let⟨wrw,n1,n2,vs,hvs,al⟩:=id wu.hr;have lv:=bV.len al;refine⟨iZ,λe he=>⟨jY,λo ho=>?_⟩⟩;have s1:=au he (.lst []);have e1:(aM H e (.lst [])) e=⇑(.lst []):=ah;generalize aM H e (.lst [])=H1 at s1 e1 ho;have s2:=au ho (.lst [↥e]);have o2:(aM H1 o (.lst [↥e])) o=⇑(.lst [↥e]):=ah;show Y7 _ _ (aM H1 o (.lst [↥e])) _;generalize aM H1 o (.lst [↥e])=H2 at s2 o2;have s02:=s1.trans s2;refine⟨rw,o,Z,s02 _ _ hvs,o2,(by rw[lv];exact gQ (aQ (by simp only[kX,qp];lia))),λr Kg=>?_⟩;have s3:=au Kg (.lst (vs++[↥e]));have r3:(aM H2 r (.lst (vs++[↥e]))) r=⇑(.lst (vs++[↥e])):=ah;generalize aM H2 r (.lst (vs++[↥e]))=H3 at s3 r3;have O8:=s02.trans s3;have fr:=aU s02 Kg;let⟨as,Et,_⟩:=id wu.hi;let⟨UA,Kx,_⟩:=id wu.hp;have e3:=s3 _ _ (s2 _ _ e1);have Tt:Bj W H3 w ik rw ps vl aL pq rq:=wu.fr (λa ob e _=>O8 _ _ e) (λa xs e=>O8 _ _ e)
 have Yk:Bj (λa=>W a\/a=e\/a=r) H3 w ik rw ps vl aL pq rq:=qx.UB Tt (λa z=>.inl z) (by
  rintro a (z|z|z)
  ·exact Tt.al a z
  ·rw[z];exact⟨_,e3⟩
  ·rw[z];exact⟨_,r3⟩)
 have nW':∀ a ob,H a=⇑ob->¬ W a->¬ (W a\/a=e\/a=r):=by
  rintro a ob h0 n (z|z|z)
  ·exact n z
  ·rw[z,he]at h0;cases h0
  ·rw[z,fr]at h0;cases h0
 refine⟨λa=>W a\/a=e\/a=r,w,r,aL,pq,rq,rq++[[]],rfl,⟨ik,rw,ps,vl,Yk⟩,Q,λik' vU ⟨jU,vl',ee⟩=>?_,λH4 wo4 fr4 tp4 _=>?_⟩
 ·rw[Tt.hw]at ee;simp only[Option.some.injEq,HO.dK.injEq,tG,List.cons.injEq,Prod.mk.injEq,V.ref.injEq,true_and,and_true]at ee;let⟨rfl,rfl,rfl,rfl⟩:=ee;exact⟨.inr (.inr rfl),(az Et fr).symm,(az Kx fr).symm,_,r3,bV.snoc (al.mono λ_ _=>Uz.fr (λa z=>.inl z) (λa xs e _ _ _=>O8 _ _ e)) ⟨e,rfl,.inr (.inl rfl),(az Et he).symm,(az Kx he).symm,e3⟩⟩
 have Ux:∀ a ob,H a=⇑ob->¬ W a->H4 a=⇑ob:=λa ob e n=>fr4 _ _ (O8 _ _ e) (nW' _ _ e n);have t04:∀ a xs,H a=⇑(.tup xs)->H4 a=⇑(.tup xs):=λa xs e=>tp4 _ _ (O8 _ _ e);have afL:=St.MW.fr (λa ob e z=>Ux _ _ e (St.du a z).1) t04
 have Xy:dJ H4 l c:=by
  let⟨n,ns,i,d,r,e1,e2,h3⟩:=St.src;exact⟨n,ns,i,d,r,Ux _ _ e1 (λq=>(St.dw l q).1 rfl),Ux _ _ e2 (λq=>(St.dw c q).2 rfl),h3⟩
 have uw:∀ a,U a->¬ (W a\/a=e\/a=r):=λa z=>by
  let⟨ob,h0⟩:=St.MW.al z;exact nW' _ _ h0 (St.du a z).1
 let⟨S',Xm,d',X8,MY,bl',kn',du',bk',dS',CO,GZ,dw',sg',ow',pw',db',tb',IP,LU⟩:=id afL;refine⟨Y,x,d',Y,LU.L.hx,rfl,S',x,d',X8,MY,bl',kn',du',bk',dS',CO,GZ,pe,IP,aF,af,rfl,LU.L,St.lst,Q,Q,Q,Q,⟨B,λS'' H5 L5 YN=>?_⟩⟩;let⟨U',afM,fu⟩:=LU.za L5 YN;have wo5:=wo4.fr (λa ob e z=>fu.2.1 _ _ e (λy=>uw a y z)) fu.2.2;let⟨ik5,rw5,ps5,vl5,Xz⟩:=id wo5;let⟨_,_,_,vs5,afO,al5⟩:=id Xz.hr;have lv5:=bV.len al5;rw[cX]at lv5;have zr5:=jw.k (k:=kR) Xz.hw;rw[show cC (tG ik5 rw5 ps5 vl5) kR=⇑↥rw5 by kernel_rfl]at zr5;refine⟨Y,w,Y,zr5,rw5,Y,.inl (bC.of afO),Z,P,rfl,.inl ⟨rfl,?_⟩,λH6 s6=>?_⟩
 ·rw[lv5];simp only[kX,qp];congr 1;lia
 have k06:∀ a ob,H a=⇑ob->¬ U a->¬ W a->H6 a=⇑ob:=λa ob e y z=>s6 _ _ (fu.2.1 _ _ (Ux _ _ e z) y)
 have afP:dJ H6 l c:=by
  let⟨n,ns,i,d,r,e1,e2,h3⟩:=Xy;exact⟨n,ns,i,d,r,s6 _ _ (fu.2.1 _ _ e1 (λq=>(St.du l q).2.1 rfl)),s6 _ _ (fu.2.1 _ _ e2 (λq=>(St.du c q).2.2 rfl)),h3⟩
 have f04:∀ a,H4 a=none->H a=none:=by
  intro a h0
  cases ea:H a with
  | none=>rfl
  | some ob =>
   exfalso;by_cases z:W a
   ·let⟨ob,e2⟩:=wo4.al (a:=a) (.inl z);rw[e2]at h0;cases h0
   rw[Ux _ _ ea z]at h0;cases h0
 refine k U' (λa=>W a\/a=e\/a=r) H6 _ (by rw[cX];rfl) ⟨afP,afM.same s6,by simp,wo5.same s6,λa z=>?_,λa z=>?_⟩ ⟨λa z=>z.elim (λz=>(fu.1 a z).elim .inl λy=>.inr (.inr (f04 a y))) (λz=>?_),λa ob e n y z=>k06 _ _ e y z,λa xs e=>s6 _ _ (fu.2.2 _ _ (t04 _ _ e))⟩
 ·rcases fu.1 a z with y|y
  ·exact⟨uw a y,(St.du a y).2⟩
  ·change H4 a=none at y;refine⟨λz=>?_,λq=>?_,λq=>?_⟩
   ·let⟨ob,e2⟩:=wo4.al z;rw[e2]at y;cases y
   ·let⟨_,ns,i,d,r,e1,_⟩:=Xy;rw[q,e1]at y;cases y
   ·let⟨_,ns,i,d,r,_,e1,_⟩:=Xy;rw[q,e1]at y;cases y
 ·have ne:=St.src.ne he;have nr:=St.src.ne fr;rcases z with z|z|z
  ·exact St.dw a z
  ·rw[z];exact⟨ne.1.symm,ne.2.symm⟩
  ·rw[z];exact⟨nr.1.symm,nr.2.symm⟩
 ·rcases z with z|z|z
  ·exact .inr (.inl z)
  ·rw[z];exact .inr (.inr he)
  ·rw[z];exact .inr (.inr fr)
abbrev e0(n:Nat):cD:=List.replicate n []
theorem zc(n:Nat):e0 n++[[]]=e0 (n+1):=(List.replicate_succ').symm
theorem xN{n:Nat}{es:List Int}(h:es∈e0 n):es=[]:=(List.mem_replicate.mp h).2
theorem XA{n:Nat}{x y:Int}:¬ jf (e0 n) x y:=λ⟨_,es,he,hy⟩=>by
 rw[xN (oA he)]at hy;cases hy
theorem P5(n:Nat):fJ (e0 n):=λes he y hy=>by
 rw[xN he]at hy;cases hy
theorem P6(n:Nat):sW (e0 n):=⟨λ_=>0,λ_=>Nat.zero_le _,λ_ _ z=>absurd z XA⟩
def GC{n:Nat}(h:n<=100):qZ (e0 n) λ_=>0:=by
 refine⟨by rw[yl];exact h,λes he=>by rw[xN he];exact Nat.zero_le _,P5 n,P6 n,λx es _ he=>?_,λ_ _ _=>by decide⟩;rw[xN (oA he)];rfl
def AE(n:Nat):iG:=[[],[],[]]++(List.range n).map λk=>e0 (k+1)
def MF(n:Nat):AE (n+1)=AE n++[e0 (n+1)]:=by
 unfold AE;rw[List.range_succ,gU,mL];rfl
def AF(n:Nat):↑(AE n)=n+3:=by
 unfold AE;rw[cX,cy,List.length_range];show 3+n=_;lia
class inductive AG(C CS CW CB:Addr)
 | mk (l c w x:Addr) (U W:Addr->Prop) (_:vs=[↥l,↥w,↥x]) (_:qx C CS CW CB H l c w x U W [[]] [] [[]] [] [] [] 0 []) (_ :
 ∀ (U' W':Addr->Prop) (H':Hp) (n:Nat) (aL:iF) (aF:iH),2<=n->n<=4->↑aL<=120->↑aF=n+2->qx C CS CW CB H' l c w x U' W' (AE n) (e0 n) (AE n) (e0 n) aF aL 2 []->Ky l U W U' W' H H'->Q (.bl true) H')
theorem iR:aH ["_law_src_here","_law_world_here","_law_house","_law_good","_law_k"] ["_law_src_here","_law_world_here","_law_house"] (aB qO):=fc
theorem D7:‹(9,90,["_law_src_here","_law_world_here","_law_house"],(AG C CS CW CB))›:=λD=>by
 specialize fH D.aaA.F iR;let⟨l,c,w,x,U,W,rfl,St,k⟩:=h;have hu:=gF hr;exists _,(ao (aW (i:=3) iR.nd iS) (ao (dN PassesOwn.never rfl (gK rfl D.T.iN (aa aC aj)) (bW (i:=4) iR.nd) (ay (aW (i:=3) iR.nd (ng (aI D.aaz (Gz D) hr (aa (pv 0) (aa (pv 1) (aa (pv 2) aj)))) (oK (pv 3)))))) (ao (dN PassesOwn.never rfl (gK rfl D.T.iN (aa (bJ eU aC (aI D.AR (fB D) hr (aa (pv 0) (aa aC aj)))) aj)) (bW (i:=4) iR.nd) (ay (aW (i:=3) iR.nd (ng (aI D.WD (vN D) hr (aa (pv 1) (aa (pv 2) aj))) (oK (pv 3)))))) (ay (aN (pv 3))))));have f0:Ky l U W U W H H:=⟨λa z=>z.elim .inl λy=>.inr (.inl y),λa ob e _ _ _=>e,λ_ _ e=>e⟩;exists 2,rfl,E,E;refine jS (lo:=0) (n:=(2:Int).toNat) (λj σ H1=>∃ (u4:Option V) (U1 W1:Addr->Prop) (aL:iF) (aF:iH),σ=[⇑↥l,⇑↥w,⇑↥x,⇑(.bl true),u4]/\qx C CS CW CB H1 l c w x U1 W1 (List.replicate (j+1) []) [] (List.replicate (j+1) []) [] aF aL j []/\↑aL<=60*j/\↑aF=j/\Ky l U W U1 W1 H H1) ⟨none,U,W,[],[],rfl,St,fT _,rfl,f0⟩ ?_ ?_
 ·rintro j σ H1 hj ⟨u4,U1,W1,aL,aF,rfl,Eu,li,ll,f1⟩;have hj2:j<2:=hj;refine⟨Y,Y,Y,l,c,w,x,U1,W1,K,_,aF,aL,j,[],rfl,Eu,(by rw[yl];lia),(by rw[yl];lia),(by show 0<=50;decide),Q,Q,Q,λU2 H2 h cs XC QH A0 G9 f2=>?_⟩;rw[← List.replicate_succ']at G9;have g:∃ (u4:Option V) (U3 W3:Addr->Prop) (abA:iF) (dm:iH),[⇑↥l,⇑↥w,⇑↥x,⇑(.bl true),⇑(V.int (0+(j:Int)))]=[⇑↥l,⇑↥w,⇑↥x,⇑(V.bl true),u4]/\qx C CS CW CB H2 l c w x U3 W3 (List.replicate (j+1+1) []) [] (List.replicate (j+1+1) []) [] dm abA (j+1) []/\↑abA<=60*(j+1)/\↑dm=j+1/\Ky l U W U3 W3 H H2:=⟨_,U2,W1,_,XC,rfl,G9,(by rw[cX,rX];lia),Q,f1.trans (by let⟨ls,hl⟩:=Eu.src.lst;exact⟨_,hl⟩) f2⟩;exists true,rfl;rw[if_pos rfl];exact⟨Y,g⟩
 rintro σ H1 ⟨u4,U1,W1,aL,aF,rfl,Eu,li,ll,f1⟩;refine⟨Y,l,c,3,rfl,Eu.src,E,E,λv H2 v0 v1 S2 k2=>⟨Z,2+v,rfl,Q,Q,?_⟩⟩;have G9:=Eu.mv (bY k2) S2
 have f2:Ky l U W U1 W1 H H2:=f1.trans (by let⟨ls,hl⟩:=Eu.src.lst;exact⟨_,hl⟩) ⟨λa z=>z.elim .inl λy=>.inr (.inl y),λa ob e n _ _=>(bY k2) _ _ e n,λa xs e=>by
  let⟨ls,hl⟩:=Eu.src.lst
  exact (bY k2) _ _ e (cY e hl)⟩
 clear f1;refine jS (lo:=0) (n:=(2+v).toNat) (λj σ H3=>∃ (u4:Option V) (U3 W3:Addr->Prop) (aF:iH),σ=[⇑↥l,⇑↥w,⇑↥x,⇑(.bl true),u4]/\qx C CS CW CB H3 l c w x U3 W3 (AE j) (e0 j) (AE j) (e0 j) aF aL 2 []/\↑aF=j+2/\Ky l U W U3 W3 H H3) ⟨u4,U1,W1,aF,rfl,G9,ll,f2⟩ ?_ ?_
 ·rintro j σ H3 hj ⟨u4,U3,W3,aF,rfl,GA,ll,f3⟩;have hj2:j<4:=by lia
  refine⟨Y,Y,l,c,w,x,U3,W3,K,_,aF,aL,2,[],rfl,GA,(by rw[AF];lia),(by rw[AF];lia),(by rw[yl];lia),rfl,Q,⟨_,by rw[zc];exact GC ∅⟩,λU4 W4 H4 XD hl4 Hf f4=>?_⟩;rw[zc,← MF]at Hf;have g:∃ (u4:Option V) (U5 W5:Addr->Prop) (dm:iH),[⇑↥l,⇑↥w,⇑↥x,⇑(.bl true),⇑(V.int (0+(j:Int)))]=[⇑↥l,⇑↥w,⇑↥x,⇑(V.bl true),u4]/\qx C CS CW CB H4 l c w x U5 W5 (AE (j+1)) (e0 (j+1)) (AE (j+1)) (e0 (j+1)) dm aL 2 []/\↑dm=j+1+2/\Ky l U W U5 W5 H H4:=⟨_,U4,W4,XD,rfl,Hf,Q,f3.trans (by let⟨ls,hl⟩:=GA.src.lst;exact⟨_,hl⟩) f4⟩;exists true,rfl;rw[if_pos rfl];exact⟨Y,g⟩
 rintro σ H3 ⟨u4,U3,W3,aF,rfl,GA,ll,f3⟩;exact⟨Y,k U3 W3 H3 (2+v).toNat aL aF ∅ ∅ (by have:(2:Int).toNat=2:=rfl;lia) ll GA f3⟩
class inductive GD
 | mk (av:Addr->Prop) (r o:Addr) (af:cD) (s:Int) (ja:List Int) (_:vs=[↥r,.int s,↥o]) (_:iy av H r af) (_:↑af<=1000) (_:fJ af) (_:0<=s) (_:s<↑af) (_:H o=⇑(.lst (ja.map V.int))) (_:Walk (jf af) s ja) (_:2<=↑ja) (_:↑ja<=2000) (_:ja.getLast?=⇑s) (_:Q (.bl true) H)
def Walk.AV{af:cD}{s:Int}{ja:List Int}(hs:fJ af)(h0:0<=s)(h1:s<↑af)(h:Walk (jf af) s ja){i:Nat}{y:Int}(e:ja[i]?=⇑y):0<=y/\y<↑af:=by
 cases i with
 | zero =>
  rw[h.1]at e;cases e;exact⟨h0,h1⟩
 | succ i =>
  have:∃ x,ja[i]?=⇑x:=by
   rcases Nat.lt_or_ge i ↑ja with q|q
   ·exact⟨ja[i],qB q⟩
   ·rw[List.getElem?_eq_none ∅]at e;cases e
  let⟨x,hx⟩:=this;exact hs.Fq (h.2 i x y hx e)
theorem nM:aH ["_law_rows","_law_sheet","_law_way","_law_here","_law_k"] ["_law_rows","_law_sheet","_law_way"] (aB pJ):=fc
theorem Bq:‹(2,91,["_law_rows","_law_sheet","_law_way"],GD)›:=λD=>by
 refine fH D.aaB.F nM λcJ A zn s0 H vs Q E hr h=>?_;let⟨av,r,o,af,s,ja,rfl,hRw,cZ,rS,h0,h1,ho,hwk,A0,hl3,abB,k⟩:=h;have hu:=gF hr;let⟨yc,hrv,pY⟩:=id hRw;exists _,(ao (bS (PW.pt (sL (gg (fN (cu dB rfl D.T.cR vX (aa (pv 2) (aa (nV rfl D.T.i6 sf) aj))))) (sL (br mS (ef D.T.dP (pv 2)) aC (bx _)) (sL (br EM (bI bw (pv 2) aC) (pv 1) (bx _)) (v7 (br EM (bI bw (pv 2) (gm dQ aC)) (pv 1) (bx _))))))) (ay (aN iS)) bG) (ao (dN PassesOwn.never rfl (cz (pv 2)) (bW (i:=3) nM.nd) (ay (bS (PW.pt (sL (gg (fN (aI D.dq2 (vo D) hr (aa (pv 3) aj)))) (sL (br mS (pv 3) aC (bx _)) (v7 (br Na (pv 3) (ef D.T.dP (pv 0)) (bx _)))))) (ay (aN iS)) bG))) (ao (dN PassesOwn.never rfl (gK rfl D.T.iN (aa (bJ cS (ef D.T.dP (pv 2)) aC) aj)) (bW (i:=4) nM.nd) (ay (bS (br uU (bJ cS (gm dQ aC) (bI bw (pv 2) (bJ eU (pv 4) aC))) (bI bw (pv 0) (bI bw (pv 2) (pv 4))) rfl) (ay (aN iS)) bG))) (ay (aN iS)))));refine⟨Y,K,Y,jT.lst ho,Vv K,Y,dM ?_⟩;refine⟨Y,o,Y,.inl (bC.of ho),Z,Y,cT (λz=>absurd (of_decide_eq_true z) (by rw[cy];lia)) (λ_=>?_)⟩;obtain⟨w1,hw1⟩:∃ w1,ja=w1++[s]:=List.getLast?_eq_some_iff.mp abB;have hl0:(ja.map V.int)[0]?=⇑(.int s):=by rw[gf,hwk.1];rfl
 refine⟨Y,o,K,V,bC.of ho,dF hl0,Y,rfl,Y,EU rfl ?_⟩;have hln:qF (ja.map V.int) (-1)=⇑(.int s):=by rw[hw1,gU];exact eX _ _
 refine⟨Y,Y,o,K,V,bC.of ho,hln,Y,rfl,Y,EU rfl ?_⟩;refine⟨Y,o,rfl,⟨_,bC.of ho⟩,dz (K:=K) (a:=o) (xs:=ja.map V.int) (λi σ H2=>∃ u:Option V,σ=[⇑↥r,⇑(.int s),⇑↥o,u,none]/\H2=H) ⟨none,V⟩ (λi σ H2 _ ⟨P,e⟩=>by rw[e];exact bC.of ho) ?_ ?_⟩
 ·rintro i x σ H2 hi ⟨u,rfl,rfl⟩;rw[gf]at hi;let⟨y,ey,rfl⟩:=Option.map_eq_some_iff.mp hi;let⟨y0,y1⟩:=hwk.AV rS h0 h1 ey;refine⟨Y,y,rfl,Y,dM ?_⟩;refine⟨Y,Z,Y,cT (λz=>absurd (of_decide_eq_true z) ∅) (λ_=>?_)⟩;refine⟨Y,Y,r,Y,.inl (bC.of hrv),Z,Y,cT (λz=>absurd (of_decide_eq_true z) (by rw[pY.len];lia)) (λ_=>?_)⟩;exact⟨Y,rfl⟩
 ·rintro σ H2 ⟨u,rfl,rfl⟩;refine⟨Y,o,Y,.inl (bC.of ho),Z,Y,(by rw[cy];lia),(by rw[cy];lia),?_⟩;refine jS (lo:=0) (n:=((↑(ja.map V.int):Int)-1).toNat) (λi σ H3=>∃ u v:Option V,σ=[⇑↥r,⇑(.int s),⇑↥o,u,v]/\H3=H2) ⟨u,none,V⟩ ?_ ?_
  ·rintro i σ H2 hi ⟨u,v,rfl,rfl⟩;rw[cy]at hi;have hx:ja[i]?=⇑(ja[i]' ∅):=qB ∅;have hy:ja[i+1]?=⇑(ja[i+1]' ∅):=qB ∅;let⟨x0,es,eO,hmem⟩:=hwk.2 i _ _ hx hy;let⟨y0,y1⟩:=hwk.AV rS h0 h1 hy;generalize ja[i]' ∅=x at hx x0 eO hmem;generalize ja[i+1]' ∅=y at hy hmem y0 y1;let⟨v1,ev1,b,rfl,_,hb⟩:=pY.get' eO
   have a1:qF (ja.map V.int) (0+(i:Int)+1)=⇑(.int y):=by
    rw[show (0+(i:Int)+1)=((i+1:Nat):Int) by lia];exact dF (by rw[gf,hy];rfl)
   have a2:qF (ja.map V.int) (0+(i:Int))=⇑(.int x):=by
    rw[show (0+(i:Int))=(i:Int) by lia];exact dF (by rw[gf,hx];rfl)
   have a3:qF yc x=⇑↥b:=by
    have z:=dF ev1;rw[show ((x.toNat:Nat):Int)=x by lia]at z;exact z
   exists Y,Y,Y,Z,o,K,V,bC.of ho,a1,Z,Y,Y,Y,o,K,V,bC.of ho,a2,r,K,V,bC.of hrv,a3,b,Y,.inl (bC.of hb),rfl,lH es,Y;rw[rR,decide_eq_true (bu.mp hmem).2];exact dM ⟨Z⟩
  ·rintro σ H2 ⟨u,v,rfl,rfl⟩;exact k
class inductive GF(C CS CW CB XH XG:Addr)
 | mk (U:Addr->Prop) (x:Addr) (pe:iG) (aF:iH) (aL:iF) (nW:Nat) (bZ:Row) (t p s:Int) (af:cD) (sh:Int->List Int) (rows':cD) (_:vs=[↥x,.int t,.int p,.int s]) (_:vW C CS CW CB U H x pe aF aL nW bZ) (_:pe.getLast?=⇑af) (_:↑af<=40) (_:↑pe<=900) (_:↑aF<=900) (_:y9 ↑af t) (_:y9 ↑af s) (_:Seen af sh) (_:0<=p/\p<=↑(sh t)) (_:↑(sh t)<=1000) (_:rows'=af.set t.toNat (eV sh p (own af t) [-1-s])) (_:Wv0 rows')
  (_:∀ (ja:List Int) (m q:Addr) (H':Hp),Walk (jf rows') t ja->2<=↑ja->↑ja<=2000->ja.getLast?=⇑t->H' m=⇑(.lst (ja.map V.int))->H' q=⇑(.tup [.str "ring",↥m])->aJ H H'->Q ↥q H') (_:¬ Reach (jf rows') t t->∃ f,Wv rows' f/\(Pf rows' f->∀ (U':Addr->Prop) (dm:iH) (q:Addr) (H':Hp),↑dm=↑aF+1->vW C CS CW CB U' H' x (pe++[rows']) dm aL nW bZ->Pq U U' H H'->H' q=⇑(.tup [.str "",.fV])->Q ↥q H')/\(Pg rows' f->∀ (q:Addr) (H':Hp),H' q=⇑(.tup [.str "heavy",.fV])->aJ H H'->Q ↥q H'))
theorem cA:aH ["_law_house","_law_target","_law_place","_law_source","_law_name","_law_way","_law_told","e"] ["_law_house","_law_target","_law_place","_law_source"] (aB jW):=fc
theorem vO:‹(7,92,["_law_house","_law_target","_law_place","_law_source"],(GF C CS CW CB aA XG))›:=λD=>by
 refine fH D.aaC.F cA λcJ A zn s0 H vs Q E hr h=>?_;let⟨U,x,pe,aF,aL,nW,bZ,t,p,s,af,sh,rows',rfl,LB,hl,l1,l2,l3,it,is,sn,ip,ln,er,B0,kr,kn⟩:=h;refine⟨_,(ao (aW (i:=4) cA.nd bP) (ao (aW (i:=5) cA.nd Ho) (ao (aW (i:=6) cA.nd Ho) (ao (dX.RJ (dX.RG (i:=6) cA.nd rfl (Or.inl rfl) (dX.RE (pv 0) D.aS.cl D.Wy.mt D.Wy.b (vH D) (hr.mono (by decide)) (aa (pv 1) (aa (pv 2) (aa (pv 3) aj))))) (dX.V0 (i:=7) cA.nd D.jr.m (λ_=>(ao (aW (i:=4) cA.nd bP) (ay (aW (i:=5) cA.nd (gh.RW (K:=K) (pv 7)))))) (dX.Ox D.lI.m (λ_=>(ay (aW (i:=4) cA.nd bP))) dX.RI))) (ao (bS (PW.pt (oJ (br gn (pv 4) bP (bx _)) (mR (zf (Jx (pv 6)))))) (ay (aW (i:=4) cA.nd bP)) bG) (ay (aN (eL (aa (pv 4) (aa (pv 5) aj)))))))))),?_⟩;have it1:=it.1;have XZ:=it.2;have is1:=is.1;have is2:=is.2;have g2:∀ {xs:List V},Nat.ble ↑xs 2=true->↑xs<=sizeLine:=λh=>jv (Nat.le_of_ble_eq_true h) (by decide);have pc:∀ {H1:Hp} {q:Addr} {o:HO},H1 q=none->aJ H H1->aJ H (aM H1 q o):=λh s=>s.trans (au h _);let⟨S',Xm,d',X8,MY,bl',kn',du',bk',dS',CO,GZ,dw',sg',ow',pw',db',tb',IP,LU⟩:=id LB;refine⟨Y,x,d',Y,LU.L.hx,rfl,Y,Y,Y,U,x,pe,aF,aL,nW,bZ,t,p,s,af,rfl,LB,hl,Q,l2,l3,Gy it1 ∅,Gy ip.1 ∅,Gy is1 ∅,it,is,⟨sh,sn,ip,λes vV=>?_⟩⟩;unfold Xl;rw[← Xu vV,Aw _ ∅,← er,Int.toNat_of_nonneg it1];refine⟨B0,λja m dx H1 wk a1 a2 a3 hd hm s1=>?_,λnr=>?_⟩
 ·refine .inl ⟨D.jr.h,dx,rfl,λa ha=>?_⟩;have nd:dx≠a:=az hd ha;have nm:m≠a:=az hm ha;exists Y,a,XG,dx,m,Y,ah,(aG nd).trans hd,rfl,D.jr.e,D.jr.wy;refine⟨Y,rfl,Y,P0 nofun ⟨Y,Y,g2 rfl,λq hq=>?_⟩⟩;have s2:=(au ha (dX.Ov ↥XG a dx)).trans (au hq (.tup [.str "ring",↥m]));exact kr ja m q _ wk a1 a2 a3 (s2 _ _ hm) ah (s1.trans s2)
 ·let⟨f,wv,kl,kh⟩:=kn nr;refine⟨f,wv,λlt U' H1 L1 fr1=>?_,λhv H1 s1=>?_⟩
  ·refine⟨Y,rfl,Y,KD ⟨Y,false,rfl,dM ⟨Y,Y,g2 rfl,λq hq=>?_⟩⟩⟩;have s2:=au hq (.tup [.str "",.fV]);exact kl lt U' _ q _ (by rw[cX];rfl) (L1.same s2) ⟨fr1.1,λa ob e n=>s2 _ _ (fr1.2.1 a ob e n),λa xs e=>s2 _ _ (fr1.2.2 a xs e)⟩ ah
  ·refine .inr ⟨D.jr.n,.inl ⟨D.lI.h,?_⟩⟩;refine⟨Y,rfl,Y,P0 nofun ⟨Y,Y,g2 rfl,λq hq=>?_⟩⟩;have s2:=au hq (.tup [.str "heavy",.fV]);exact kh hv q _ ah (s1.trans s2)
def qx.done{C:Addr}{H':Hp}{l c w x rw q e:Addr}{U' W:Addr->Prop}{pe Ga:iG}{af rows':cD}{dm:iH}{aL:iF}{nW:Nat}{bZ:Row}{xs:List V}{s:Nat}{es:List Int}{Q:VK}{E:XK}(St:qx C CS CW CB H' l c w x U' W Ga rows' pe af dm aL nW bZ)(wu:Bj W H' w ik rw ps vl aL pe af)(hx:H' rw=⇑(.lst xs))(hq:H' q=⇑(.lst (xs.set s ↥e)))(he:H' e=⇑(.lst (es.map V.int)))(nq:¬ U' q/\¬ W q/\q≠l/\q≠c)(ne:¬ U' e/\¬ W e/\e≠l/\e≠c)(lp:↑pe<=1000)(er:rows'=af.set s es)(ep:Ga=pe++[rows'])(k:∀ (W':Addr->Prop) (H9:Hp),qx C CS CW CB H9 l c w x U' W' Ga rows' Ga rows' dm aL nW bZ->Q .fV H9):PL [↥w,↥q] H' Q E:=by
 let⟨Yk,rv⟩:=Wo.swap wu hx hq he nq.2.1 ne.2.1;rw[← er]at rv;refine⟨_,w,q,aL,pe,af,rows',rfl,⟨ik,rw,ps,vl,Yk⟩,lp,λik' vU ⟨rw2,vl',ee⟩=>?_,λH9 Ym Yn tp9 _=>?_⟩
 ·rw[wu.hw]at ee;simp only[Option.some.injEq,HO.dK.injEq,tG,List.cons.injEq,Prod.mk.injEq,V.ref.injEq,true_and,and_true]at ee;let⟨rfl,rfl,rfl,rfl⟩:=ee;exact rv
 rw[← ep]at Ym
 exact k _ H9 (St.kept Ym (λa z y=>by
  rcases y with y|y|y
  ·exact (St.du a z).1 y
  ·exact ne.1 (by rw[← y];exact z)
  ·exact nq.1 (by rw[← y];exact z)) (λa y=>by
  rcases y with y|y|y
  ·exact St.dw a y
  ·rw[y];exact ne.2.2
  ·rw[y];exact nq.2.2) Yn tp9)
theorem Pq.off{U U':Addr->Prop}{H H':Hp}(f:Pq U U' H H'){a:Addr}{ob:HO}(e:H a=⇑ob)(n:¬ U a):H' a=⇑ob/\¬ U' a:=⟨f.2.1 _ _ e n,λz=>by
 rcases f.1 _ z with y|y
 ·exact n y
 ·rw[y]at e;cases e⟩
def Walk.ring{af:cD}{s:Int}{ja:List Int}(w:Walk (jf af) s ja)(l:2<=↑ja)(e:ja.getLast?=⇑s):Reach (jf af) s s:=by
 rw[List.getLast?_eq_getElem?]at e;exact w.reach (↑ja-2) s (by rw[show ↑ja-2+1=↑ja-1 by lia];exact e)
class inductive CG(C CS CW CB:Addr)
 | mk (l c w x:Addr) (U W:Addr->Prop) (pe:iG) (af:cD) (aF:iH) (aL:iF) (nW:Nat) (bZ:Row) (_:vs=[↥l,↥w,↥x]) (_:qx C CS CW CB H l c w x U W pe af pe af aF aL nW bZ) (_:1<=↑af) (_:↑pe<=800) (_:↑aF<=800) (_:↑aL<=10000) (_:Good ↑aL af) (_:∀ (U' W':Addr->Prop) (Ga:iG) (rows':cD) (dm:iH) (H':Hp),qx C CS CW CB H' l c w x U' W' Ga rows' Ga rows' dm aL nW bZ->↑rows'=↑af->Ga.length<=↑pe+1->↑dm<=↑aF+1->Good ↑aL rows'->Q (.bl true) H')
theorem Good.fm{n:Nat}{af:cD}{sh:Int->List Int}{f:Int->Int}(g:Gd n af sh)(hw:Weighs af f)(hm:∀ x:Int,0<=x->x<↑af->f x<=200):∀ x:Int,0<=x->x<↑af->0<=f x/\f x<=200:=λx x0 x1=>⟨by
 have:=(vL g.sn.sd g.sn.rk g.sn.ss hw x x0 _ (qB ∅)).1
 lia,hm x x0 x1⟩
def KG{n:Nat}{af:cD}{sh:Int->List Int}{f:Int->Int}{s p:Int}{new:List Int}(g:Gd n af sh)(hw:Weighs af f)(m:∀ x:Int,0<=x->x<↑af->0<=f x/\f x<=200)(is:y9 ↑af s)(hn:eG f new<=300)(en:∀ e∈new,qg n ↑af e):eG f (eV sh p (own af s) new)<=600/\↑(eV sh p (own af s) new)<=600:=by
 have wl:∀ y:Int,0<=y->y<↑af->(↑(sh y):Int)<=f y/\∀ a∈sh y,0<=a:=λy y0 y1=>⟨(vL g.sn.sd g.sn.rk g.sn.ss hw y y0 _ (qB ∅)).2,λa ha=>(g.in_ y y0 y1 a ha).1⟩;have e:=AA is;have h0:=abr (sh:=sh) (f:=f) (p:=p) (es:=own af s) (new:=new) λy hy=>wl y (bu.mp hy).1 (g.sn.sd _ (oA e) y hy);have h1:=hw s _ is.1 e;have h2:=m s is.1 is.2
 have h3:=(D4 (sh:=sh) (f:=f) (es:=eV sh p (own af s) new) λy hy=>(wl y (bu.mp hy).1 (by
  have y0:=(bu.mp hy).1
  rcases r9 g.cl (g.own s) en _ (bu.mp hy).2 with z|z <;> lia)).1).1
 exact⟨Q,Q⟩
theorem qx.Yo{C:Addr}{H H':Hp}{l c w x rw:Addr}{U W:Addr->Prop}{pe:iG}{af:cD}{pq:iG}{rq:cD}{aF:iH}{aL:iF}{nW:Nat}{bZ:Row}(St:qx C CS CW CB H l c w x U W pe af pq rq aF aL nW bZ)(wu:Bj W H w ik rw ps vl aL pq rq)(k:cL l H H'):Bj W H' w ik rw ps vl aL pq rq :=
 wu.fr (λa ob e wa=>k _ _ e (St.dw a wa).1) λa xs e=>k _ _ e (by
  let⟨_,_,_,_,_,e1,_⟩:=St.src
  exact cY e e1)
theorem fE:aH ["_law_src_here","_law_world_here","_law_house","_law_rows","_law_target","_law_source","_law_place","_law_new","_law_name","_law_way"] ["_law_src_here","_law_world_here","_law_house"] (aB pK):=fc
def Br(D:Ds K mg aX aZ C CS CW CB CT CD aA XG ci)(lK:aY P w K mg zt cP 44 (aX 81) (aZ 81) ["_law_rows","_law_sheet","_law_place","_law_new"] (D3 41))(xO:aY P w K mg zt cP 7 (aX 92) (aZ 92) ["_law_house","_law_target","_law_place","_law_source"] (GF C CS CW CB XH XG))(D8:aY P w K mg zt cP 2 (aX 91) (aZ 91) ["_law_rows","_law_sheet","_law_way"] GD)(j3:aY P w K mg zt cP 43 (aX 86) (aZ 86) ["_law_rows","_law_sheet"] D5):aY P w K mg zt cP 45 (aX 93) (aZ 93) ["_law_src_here","_law_world_here","_law_house"] (CG C CS CW CB):=by
 have cG:aY P w K mg zt cP 1 _ _ Yu wG:=fB D;refine fH D.aaD.F fE λcJ A zn s0 H vs Q E hr h=>?_;let⟨l,c,w,x,U,W,pe,af,aF,aL,nW,bZ,rfl,St,r1,b1,b2,b3,gd,k⟩:=h;have hu:=gF hr;exists _,(ao (aW (i:=3) fE.nd (gJ hu (pv 1) bP)) (ao (aW (i:=4) fE.nd (aI D.AR cG hr (aa (pv 0) (aa (ef D.T.dP (pv 3)) aj)))) (ao (aW (i:=5) fE.nd (aI D.AR cG hr (aa (pv 0) (aa (ef D.T.dP (pv 3)) aj)))) (ao (aW (i:=6) fE.nd (aI D.AR cG hr (aa (pv 0) (aa (bJ eU (ef D.T.dP (aI D.LR (kF D 41) hr (aa (pv 3) (aa (pv 4) aj)))) aC) aj)))) (ao (aW (i:=7) fE.nd (aI D.R0 (rB D) hr (aa (pv 3) (aa (pv 4) (aa (aI D.WB lK hr (aa (pv 3) (aa (pv 4) (aa (pv 6) (aa (bO (aa (bJ cS (gm dQ aC) (pv 5)) aj)) aj))))) aj))))) (ao (nh (aI D.aaC xO hr (aa (pv 2) (aa (pv 4) (aa (pv 6) (aa (pv 5) aj))))) (oM (n:=2) rfl (b9 (bW (i:=8) fE.nd) (b9 (bW (i:=9) fE.nd) iI)))) (ao (bS (br wm (pv 4) (aI D.Wz (rD D) hr (aa (pv 7) (aa (pv 4) aj))) rfl) (ay (aN (ng (gW gn (pv 8) bP (bx _)) (oK (aI D.aaB D8 hr (aa (pv 7) (aa (pv 4) (aa (pv 9) aj)))))))) bG) (ao (bS (gg (fN (aI D.WC j3 hr (aa (pv 7) (aa (pv 4) aj))))) (ay (aN (gW gn (pv 8) bP (bx _)))) bG) (ao (aV (aI D.LQ (kC D) hr (aa (pv 1) (aa (pv 7) aj)))) (ay (aN (gW gn (pv 8) bP (bx _)))))))))))));let⟨sh,g⟩:=gd.KA;let⟨f,hw,hm⟩:=gd.wt;have fm:=Good.fm g hw hm;have l40:=g.ln;let⟨rk,rb,dn⟩:=id g.sn.rk;let⟨ik,jU,ps,vl,wu⟩:=id St.wo;let⟨wrw,_,_,xs,hxs,al⟩:=id wu.hr;have lv:=bV.len al;have zr:=jw.k (k:=kR) wu.hw;rw[show cC (tG ik jU ps vl) kR=⇑↥jU by kernel_rfl]at zr;refine⟨Y,w,Y,zr,Y,Y,jU,Y,.inl (bC.of hxs),l,c,Y,St.src,Q,Q,λt H1 t0 t1 S1 k1=>?_⟩;have Eu:=St.mv (bY k1) S1;have Yp:=St.Yo wu (bY k1);have hx1:=bY k1 _ _ hxs (St.dw _ wrw).1;refine⟨Y,Y,jU,Y,.inl (bC.of hx1),l,c,Y,Eu.src,Q,Q,λs H2 s0 s1 S2 k2=>?_⟩;have G9:=Eu.mv (bY k2) S2;have Yq:=Eu.Yo Yp (bY k2);have it:y9 ↑af t:=⟨t0,Q⟩;have is:y9 ↑af s:=⟨s0,Q⟩;have lt:=g.sl t it.1 it.2;refine⟨Y,Y,Y,_,jU,af,t,sh,rk,rfl,Yq.hr.at_,Q,g.sn.sd,it.1,it.2,g.sn.ss,g.sn.ln,dn,by have:=rb t;lia,λo2 H3 VM s3 fo2=>?_⟩;have GA:=G9.same s3;exists o2,Y,.inl (bC.of VM),Z;rw[cy];refine⟨l,c,Y,GA.src,Q,Q,λp H4 p0 p1 S4 k4=>?_⟩;have Hf:=GA.mv (bY k4) S4;have Tt:Bj W H3 w ik jU ps vl aL pe af:=Yq.fr (λa ob e _=>s3 _ _ e) λa xs e=>s3 _ _ e;have wu4:=GA.Yo Tt (bY k4);clear wu Yp Yq Tt hx1 Eu G9 GA S1 S2;refine⟨Y,Y,Y,Y,Y,Y,Y,Z,jY,λn hn=>?_⟩;have s5:=au hn (.lst [.int (-1-s)]);have hn5:(aM H4 n (.lst [.int (-1-s)])) n=⇑(.lst (([-1-s]:List Int).map V.int)):=ah;generalize aM H4 n (.lst [.int (-1-s)])=H5 at s5 hn5;refine⟨_,jU,n,af,t,p,[-1-s],sh,rk,rfl,wu4.hr.at_.same s5,Q,(λes he=>by have:=g.es es he;lia),g.sn.sd,g.sn.ss,g.sn.ln,dn,it.1,it.2,by have:=rb t;lia,hn5,(by show 1<=25000;decide),λes o6 H6 Be ho6 lo6 s6 fo6=>?_⟩;rw[AA it]at Be;cases Be;have tt:((t.toNat:Nat):Int)=t:=by lia
 let⟨_,_,_,ys,hys,Xf⟩:=id wu4.hr;have ly:=bV.len Xf;have s46:=s5.trans s6;refine⟨jU,o6,t.toNat,ys,by rw[tt];rfl,s46 _ _ hys,Q,Q,λq H7 hq s7 fq=>?_⟩;have Yr:=s46.trans s7;have P7:=Hf.same Yr;have fq4:=aU s46 fq;have fo4:=aU s5 fo6
 have ei:∀ e∈([-1-s]:List Int),qg ↑aL ↑af e:=λe he=>by
  rw[List.mem_singleton.mp he];exact .inr ⟨Q,Q⟩
 have ew:eG f [-1-s]<=300:=by
  have:=fm s is.1 is.2;rw[gu,if_pos ∅,show -1-(-1-s)=s by lia,show eG f []=0 from rfl];lia
 let⟨w6,l6⟩:=KG (p:=p) g hw fm it ew ei;have UG:=Az (s:=t.toNat) g.en (r9 (p:=p) g.cl (g.own t) ei);generalize er:af.set t.toNat (eV sh p (own af t) [-1-s])=rows' at UG;have hl3:↑rows'=↑af:=by rw[← er];exact List.length_set
 have Tu:∀ es∈rows',↑es<=600:=λes he=>by
  rw[← er]at he;rcases List.mem_or_eq_of_mem_set he with z|z
  ·have:=g.es es z;lia
  ·rw[z];exact l6
 have R7:iy (λ_=>False) H7 q rows':=by
  rw[← er];exact⟨_,hq,bV.set _ (Xf.mono λv es ⟨b,e,K,hb⟩=>⟨b,e,λz=>z,Yr _ _ hb⟩) ⟨o6,rfl,λz=>z,s7 _ _ ho6⟩⟩
 have MG:=Ay UG;refine⟨Y,Y,Y,Y,U,x,pe,aF,aL,nW,bZ,t,p,s,af,sh,rows',rfl,P7.MW,P7.lst,Q,Q,Q,it,is,g.sn,⟨p0,Q⟩,Q,er.symm,⟨Q,λes he=>by have:=Tu es he;lia,MG⟩,λja m q8 H8 wk a2 a3 a4 hm8 hq8 s8=>?_,λnr=>?_⟩
 ·exists q8,Y,gV.of hq8,rfl,P,rfl,Z;refine⟨Y,Y,Y,_,q,rows',t,rfl,R7.same s8,Q,(λes he=>by have:=Tu es he;lia),MG,it.1,Q,λL o9 H9 ho9 s9 Xx=>⟨o9,Y,.inl (bC.of ho9),rfl,lH L,Y,?_⟩⟩;rw[rR,decide_eq_true ((Xx t).mpr (wk.ring a2 a4))];refine ji ?_;exact⟨Y,rfl,Y,KD ⟨Y,Y,Y,_,q,m,rows',t,ja,rfl,(R7.same s8).same s9,Q,MG,it.1,Q,s9 _ _ hm8,wk,a2,a3,a4,k U W pe af aF H9 (P7.same (s8.trans s9)) rfl ∅ ∅ gd⟩⟩
 ·have R5:sW rows':=Xw MG ∅ (by
   rw[← er]at nr ⊢
   exact PV it.1 g.sn.rk nr)
  let⟨f',Kh⟩:=wY R5
  have wv:Wv rows' f':=⟨Q,λes he=>by have:=Tu es he;lia,MG,R5,Kh,λy y0 y1=>by
   rw[← er]at R5 MG Kh
   exact abu hw fm R5 MG Kh it.1 it.2 w6 y y0 ∅⟩
  refine⟨f',wv,λhL U' dm q8 H8 e8 L8 Dc hq8=>?_,λhH q8 H8 hq8 s8=>?_⟩
  ·have St8:=(P7.Xs L8 (rows':=rows') (by simp) Dc).1;have nq:=Hf.new fq4;have no:=Hf.new fo4
   have R8:iy (λ_=>False) H8 q rows':=by
    rw[← er];exact⟨_,Dc.2.1 _ _ hq nq.1,bV.set _ (Xf.mono λv es ⟨b,e,wb,P,hb⟩=>⟨b,e,λz=>z,Dc.2.1 _ _ (Yr _ _ hb) λy=>(P7.du b y).1 wb⟩) ⟨o6,rfl,λz=>z,Dc.2.1 _ _ (s7 _ _ ho6) no.1⟩⟩
   exists q8,Y,gV.of hq8,rfl,P,rfl,Z;refine⟨Y,Y,Y,_,q,rows',t,rfl,R8,Q,(λes he=>by have:=Tu es he;lia),MG,it.1,Q,λL o9 H9 ho9 s9 Xx=>⟨o9,Y,.inl (bC.of ho9),rfl,lH L,Y,?_⟩⟩;rw[rR,decide_eq_false λz=>nr ((Xx t).mp z)];refine dM ?_;refine⟨Y,Y,_,q,rows',t,f',rfl,R8.same s9,Q,(λes he=>by have:=Tu es he;lia),MG,it.1,Q,R5,Kh,λb HA sA bt bf=>⟨b,rfl,?_⟩⟩
   cases b with
   | false=>let⟨y,y0,y1,y2⟩:=bf rfl;have:=hL y y0 y1;lia
   | true =>
    have Tv:=s9.trans sA;have cq:=Dc.off hq nq.1;have co:=Dc.off (s7 _ _ ho6) no.1;have wuA:Bj W HA w ik jU ps vl aL pe af:=((wu4.fr (λa ob e _=>Yr _ _ e) λa xs e=>Yr _ _ e).fr (λa ob e wa=>Dc.2.1 _ _ e λy=>(P7.du a y).1 wa) Dc.2.2).fr (λa ob e _=>Tv _ _ e) λa xs e=>Tv _ _ e;refine dM ⟨Y,Y,(St8.same Tv).done wuA (Tv _ _ (Dc.2.1 _ _ (Yr _ _ hys) λy=>(P7.du _ y).1 wrw)) (Tv _ _ cq.1) (Tv _ _ co.1) ⟨cq.2,nq.2⟩ ⟨co.2,no.2⟩ ∅ er.symm rfl λW' HB StB=>?_⟩;exists Y,rfl;show Q (.bl (decide (V.str ""=V.str ""))) HB;rw[decide_eq_true rfl];exact k U' W' _ _ _ HB StB hl3 (by rw[cX];exact fT _) ∅ ⟨UG,R5,Q,f',Kh,bt rfl⟩
  ·exists q8,Y,gV.of hq8,rfl,P,rfl,Z;refine⟨Y,Y,Y,_,q,rows',t,rfl,R7.same s8,Q,(λes he=>by have:=Tu es he;lia),MG,it.1,Q,λL o9 H9 ho9 s9 Xx=>⟨o9,Y,.inl (bC.of ho9),rfl,lH L,Y,?_⟩⟩;rw[rR,decide_eq_false λz=>nr ((Xx t).mp z)];refine dM ?_;refine⟨Y,Y,_,q,rows',t,f',rfl,(R7.same s8).same s9,Q,(λes he=>by have:=Tu es he;lia),MG,it.1,Q,R5,Kh,λb HA sA bt bf=>⟨b,rfl,?_⟩⟩
   cases b with
   | true=>let⟨y,y0,y1,y2⟩:=hH;have:=bt rfl y y0 y1;lia
   | false =>
    refine ji ⟨Y,rfl,?_⟩;show Q (.bl (decide (V.str "heavy"=V.str "heavy"))) HA;rw[decide_eq_true rfl];exact k U W pe af aF HA (P7.same (s8.trans (s9.trans sA))) rfl ∅ ∅ gd
def P8{f g:Int->Int}{a b:List Int}(h:a.Sublist b):(∀ y∈cM b,g y<=f y/\0<=f y)->eG g a<=eG f b:=by
 have tl:∀ {x:Int} {r:List Int},(∀ y∈cM (x::r),g y<=f y/\0<=f y)->∀ y∈cM r,g y<=f y/\0<=f y:=λk y hy=>k y (bu.mpr ⟨(bu.mp hy).1,oE _ (bu.mp hy).2⟩);have hd:∀ {x:Int} {r:List Int},(∀ y∈cM (x::r),g y<=f y/\0<=f y)->x<0->g (-1-x)<=f (-1-x)/\0<=f (-1-x):=λ{x r} k c=>k (-1-x) (bu.mpr ⟨Q,by rw[show -1-(-1-x)=x by lia];simp⟩)
 induction h with
 | slnil=>intro _;exact Int.le_refl _
 | cons x h ih =>
  intro k;have:=ih (tl k);rw[gu];split
  ·rename_i c;have:=hd k c;lia
  ·lia
 | cons_cons x h ih =>
  intro k;have:=ih (tl k);rw[gu,gu];split
  ·rename_i c;have:=hd k c;lia
  ·lia
def sW.sub{af:cD}{s:Int}{es rK:List Int}(h:sW af)(he:af[s.toNat]?=⇑es)(w:∀ y∈cM rK,y∈cM es):sW (af.set s.toNat rK):=by
 let⟨rk,rb,dn⟩:=h;refine⟨rk,rb,λx y EF=>?_⟩;let⟨x0,vV,e1,hy⟩:=EF;by_cases c:s.toNat=x.toNat
 ·rw[← c,List.getElem?_set_self (List.getElem?_eq_some_iff.mp he).1]at e1;cases e1;exact dn x y ⟨x0,es,c ▸ he,w y hy⟩
 ·rw[List.getElem?_set_ne c]at e1;exact dn x y ⟨x0,vV,e1,hy⟩
def Good.sub{n:Nat}{af:cD}{s:Int}{es rK:List Int}(h:Good n af)(he:af[s.toNat]?=⇑es)(sb:rK.Sublist es):Good n (af.set s.toNat rK):=by
 let⟨sh,g⟩:=h.KA;have sl:=(List.getElem?_eq_some_iff.mp he).1;have UG:=Az (s:=s.toNat) h.en λe z=>h.en es (oA he) e (sb.subset z);have ws:∀ y∈cM rK,y∈cM es:=λy hy=>bu.mpr ⟨(bu.mp hy).1,sb.subset (bu.mp hy).2⟩;have R:=h.rk.sub he ws;let⟨f,hw,hm⟩:=h.wt;let⟨f',Kh⟩:=wY R;let⟨r,rb,dn⟩:=id h.rk
 have le:∀ (b:Nat) (x:Int),r x<b->0<=x->x<↑af->f' x<=f x:=by
  intro b
  induction b with
  | zero=>intro x z;lia
  | succ b ih =>
   intro x z x0 x1;have e:af[x.toNat]?=⇑af[x.toNat]:=qB ∅
   obtain⟨vV,e1,s1⟩:∃ vV,(af.set s.toNat rK)[x.toNat]?=⇑vV/\vV.Sublist af[x.toNat]:=by
    by_cases c:s.toNat=x.toNat
    ·refine⟨rK,by rw[← c,List.getElem?_set_self sl],?_⟩;rw[c,e]at he;cases he;exact sb
    ·exact⟨_,by rw[List.getElem?_set_ne c];exact e,List.Sublist.refl _⟩
   rw[hw x _ x0 e,Kh x _ x0 e1];refine P8 s1 λy hy=>?_;have d:=dn x y ⟨x0,_,e,hy⟩;have t:=g.sn.sd _ (oA e) y hy;have y0:=(bu.mp hy).1;exact⟨ih y ∅ y0 t,(Good.fm g hw hm y y0 t).1⟩
 refine⟨UG,R,by rw[List.length_set];exact h.ln,f',Kh,λx x0 x1=>?_⟩;rw[List.length_set]at x1;exact Int.le_trans (le (r x+1) x (Nat.lt_succ_self _) x0 x1) (hm x x0 x1)
theorem P9{sh:Int->List Int}{N:Int}:∀ (es:List Int) (f:Int),0<=f->f+(↑(aT sh es):Int)<=N->(kE sh 0 N f es).Sublist es
 | [],_,_,_=>.slnil
 | e::r,f,h0,h1=>by
  rw[cF,cX]at h1;have ih:=P9 (sh:=sh) (N:=N) r (f+↑(bq sh e)) ∅ ∅;rw[kE];unfold OV;split
  ·exact ih.cons_cons e
  ·rw[if_pos ⟨h0,Q⟩];exact ih.cons e
def Tw{sh:Int->List Int}{N:Int}{es:List Int}(h:(↑(aT sh es):Int)=N):(dY sh 0 N es).Sublist es:=by
 unfold dY;split
 ·exact List.Sublist.refl _
 ·exact P9 es 0 (Int.le_refl _) ∅
theorem gw:aH ["_law_src_here","_law_world_here","_law_house","_law_rows","_law_sheet","_law_many","_law_row","_law_new"] ["_law_src_here","_law_world_here","_law_house"] (aB nF):=fc
def AH(D:Ds K mg aX aZ C CS CW CB CT CD aA XG ci)(lK:aY P w K mg zt cP 44 (aX 81) (aZ 81) ["_law_rows","_law_sheet","_law_place","_law_new"] (D3 41))(MH:aY P w K mg zt cP 44 (aX 82) (aZ 82) ["_law_rows","_law_sheet","_law_start","_law_stop"] (PU 41))(j3:aY P w K mg zt cP 43 (aX 86) (aZ 86) ["_law_rows","_law_sheet"] D5):aY P w K mg zt cP 45 (aX 94) (aZ 94) ["_law_src_here","_law_world_here","_law_house"] (CG C CS CW CB):=by
 refine fH D.aaE.F gw λcJ A zn s0 H vs Q E hr h=>?_;let⟨l,c,w,x,U,W,pe,af,aF,aL,nW,bZ,rfl,St,r1,b1,b2,b3,gd,k⟩:=h;have hu:=gF hr;exists _,(ao (aW (i:=3) gw.nd (gJ hu (pv 1) bP)) (ao (aW (i:=4) gw.nd (aI D.AR (fB D) hr (aa (pv 0) (aa (ef D.T.dP (pv 3)) aj)))) (ao (aW (i:=5) gw.nd (ef D.T.dP (aI D.LR (kF D 41) hr (aa (pv 3) (aa (pv 4) aj))))) (ao (aW (i:=6) gw.nd (jb lC (aI D.aay (AB D) hr (aa (pv 0) (aa (pv 1) aj))) lu (jA aC))) (ao (bS (br gn (aI D.AR (fB D) hr (aa (pv 0) (aa aC aj))) aC (bx _)) (ao (aV (eN (pv 2) D.aS D.aah (Aq D) hr Oa (aa (pv 4) (aa aC (aa (pv 5) aj))))) (ao (aV (aI D.LQ (kC D) hr (aa (pv 1) (aa (aI D.R0 (rB D) hr (aa (pv 3) (aa (pv 4) (aa (bI dh (aI D.aav MH hr (aa (pv 3) (aa (pv 4) (aa aC (aa (pv 5) aj))))) aC) aj)))) aj)))) (ay (aN iS)))) bG) (ao (aW (i:=7) gw.nd (aI D.R0 (rB D) hr (aa (pv 3) (aa (pv 4) (aa (aI D.WB lK hr (aa (pv 3) (aa (pv 4) (aa (pv 5) (aa (aI D.aau (DW D) hr (aa (pv 6) aj)) aj))))) aj))))) (ao (bS (fN (aI D.WC j3 hr (aa (pv 7) (aa (pv 4) aj)))) (ao (aV (eN (pv 2) D.aS D.aag (Ao D) hr Oa (aa (pv 4) (aa (pv 5) (aa (pv 6) aj))))) (ay (aV (aI D.LQ (kC D) hr (aa (pv 1) (aa (pv 7) aj)))))) bG) (ay (aN iS)))))))));let⟨sh,g⟩:=gd.KA;let⟨f,hw,hm⟩:=gd.wt;have fm:=Good.fm g hw hm;have l40:=g.ln;let⟨rk,rb,dn⟩:=id g.sn.rk;let⟨ik,jU,ps,vl,wu⟩:=id St.wo;let⟨wrw,_,_,xs,hxs,al⟩:=id wu.hr;have lv:=bV.len al;have zr:=jw.k (k:=kR) wu.hw;rw[show cC (tG ik jU ps vl) kR=⇑↥jU by kernel_rfl]at zr;refine⟨Y,w,Y,zr,Y,Y,jU,Y,.inl (bC.of hxs),l,c,Y,St.src,Q,Q,λs H1 s0 s1 S1 k1=>?_⟩;have Eu:=St.mv (bY k1) S1;have Yp:=St.Yo wu (bY k1);have is:y9 ↑af s:=⟨s0,Q⟩;have ls:=g.sl s is.1 is.2;have ss:((s.toNat:Nat):Int)=s:=by lia
 refine⟨Y,Y,_,jU,af,s,sh,rk,rfl,Yp.hr.at_,Q,g.sn.sd,is.1,is.2,g.sn.ss,g.sn.ln,dn,by have:=rb s;lia,λo2 H2 VM s2 fo2=>?_⟩;have G9:=Eu.same s2;have Yq:Bj W H2 w ik jU ps vl aL pe af:=Yp.fr (λa ob e _=>s2 _ _ e) λa xs e=>s2 _ _ e;exists o2,Y,.inl (bC.of VM);rw[cy];refine⟨Y,Y,l,c,w,W,aL,pe,af,rfl,G9.src,G9.wo,G9.dw,Q,λr row H3 lr G5 d3 f3 S3 K3=>?_⟩;let⟨as,har,par⟩:=id G5;have GA:=G9.mv K3 S3;have Tt:=G9.Yo Yq K3;refine⟨Y,r,Y,bC.of har,λq4 MT=>?_⟩;have s4:=au MT (.lst (jN (as.map V.ref) none (some 1)));have hr4:cB (aM H3 q4 (.lst (jN (as.map V.ref) none (some 1)))) q4 (row.take 1):=⟨as.take 1,by rw[ah,Ob as (by decide)];rfl,zJ 1 (par.same s4)⟩;generalize aM H3 q4 (.lst (jN (as.map V.ref) none (some 1)))=H4 at s4 hr4 ⊢;have d4:∀ p∈row.take 1,0<=p.1/\p.1<p.2/\p.2<=↑aL/\p.2<=p.1+40:=λp h=>d3 p (List.mem_of_mem_take h);have l4:↑(row.take 1)<=1:=by rw[gO];lia
 generalize row.take 1=IX at hr4 d4 l4;have n4:=GA.new MT;have Hf:=GA.same s4;have wu4:Bj W H4 w ik jU ps vl aL pe af:=Tt.fr (λa ob e _=>s4 _ _ e) λa xs e=>s4 _ _ e;clear G5 par har d3 lr f3 Tt GA Yq Yp wu hxs al Eu G9 S1
 have lst:∀ {H:Hp} {a:Addr} {xs:List V},dJ H l c->H a=⇑(.tup xs)->a≠l:=λS e=>by
  let⟨_,_,_,_,_,e1,_⟩:=S;exact cY e e1
 refine⟨Y,l,c,2,rfl,Hf.src,E,E,λv H5 v0 v1 S5 k5=>⟨rfl,Y,cT (λ_=>?_) (λ_=>?_)⟩⟩
 all_goals have Hg:=Hf.mv (bY k5) S5
 all_goals have Xz:=Hf.Yo wu4 (bY k5)
 ·refine⟨Y,Hg.MW.m ⟨Y,Y,U,x,pe,aF,aL,nW,bZ,s,0,(↑(sh s):Nat),af,rfl,Hg.MW,Hg.lst,Q,Q,Q,Gy ∅ ∅,Gy (by decide) (by decide),Gy ∅ ∅,is,⟨sh,g.sn,⟨E,Q,Q⟩,λes vV=>?_⟩⟩⟩;have XE:=gd.sub (s:=s) vV (Tw (sh:=sh) (N:=(↑(sh s):Nat)) (by rw[← g.sn.ss s es is.1 vV]));let⟨fb,B⟩:=XE.bears;unfold Xl;rw[Aw _ ∅];refine B.Ph λU' H6 L6 JV=>?_;have Ew:=(Hg.Xs L6 (rows':=af.set s.toNat (dY sh 0 (↑(sh s):Nat) es)) (by simp) JV).1;have wu6:Bj W H6 w ik jU ps vl aL pe af:=Xz.fr (λa ob e wa=>JV.2.1 _ _ e λy=>(Hg.du a y).1 wa) JV.2.2;let⟨_,_,_,ys,hys,al6⟩:=id wu6.hr;have ly:=bV.len al6;refine⟨Y,Y,Y,Y,Y,Y,_,jU,af,s,0,(↑(sh s):Nat),sh,rk,rfl,wu6.hr.at_,Q,(λes he=>by have:=g.es es he;lia),g.sn.sd,g.sn.ss,g.sn.ln,dn,is.1,is.2,by have:=rb s;lia,Q,λrK tu L M H7 Be ht hL hM s7 fL fM nLM=>?_⟩;rw[vV]at Be;cases Be;refine⟨tu,K,V,gV.of ht,Wf,jU,L,s.toNat,ys,by rw[ss];rfl,s7 _ _ hys,Q,Q,λq H8 hq s8 fq=>?_⟩;have s68:=s7.trans s8;refine (Ew.same s68).done (wu6.fr (λa ob e _=>s68 _ _ e) λa xs e=>s68 _ _ e) (s68 _ _ hys) hq (s8 _ _ hL) (Ew.new (aU s7 fq)) (Ew.new fL) ∅ rfl rfl λW' H9 XF=>?_;exact k U' W' _ _ _ H9 XF List.length_set (by rw[cX];exact fT _) (by rw[cX];exact fT _) XE
 ·have hr5:cB H5 q4 IX:=hr4.two (λxs e=>bY k5 _ _ e n4.2.2.1) λa xs e=>bY k5 _ _ e (lst Hf.src e);have q1:=Gm (k:=40) (row:=IX) λp h=>(d4 p h).2.2.2;refine⟨Y,Y,Y,Y,Y,Y,q4,IX,rfl,hr5,(λp h=>by have:=d4 p h;lia),Q,Q,λm H6 hm6 s6 fm6=>?_⟩;have ei:∀ e∈bz IX,qg ↑aL ↑af e:=λe he=>.inl (Gn (λp h=>by have:=d4 p h;exact⟨this.1,this.2.1,this.2.2.1⟩) he);have e0:∀ e∈bz IX,0<=e:=λe he=>(Gn (n:=↑aL) (λp h=>by have:=d4 p h;exact⟨this.1,this.2.1,this.2.2.1⟩) he).1;have ew:eG f (bz IX)<=300:=by rw[zb f e0];lia
  let⟨w6,l6⟩:=KG (p:=(↑(sh s):Nat)) g hw fm is ew ei;refine⟨_,jU,m,af,s,(↑(sh s):Nat),bz IX,sh,rk,rfl,Xz.hr.at_.same s6,Q,(λes he=>by have:=g.es es he;lia),g.sn.sd,g.sn.ss,g.sn.ln,dn,is.1,is.2,by have:=rb s;lia,hm6,Q,λes o7 H7 Be ho7 lo7 s7 fo7=>?_⟩;rw[AA is]at Be;cases Be;let⟨afX,_,_,ys,hys,al5⟩:=id Xz.hr;have ly:=bV.len al5;have Ys:=s6.trans s7;refine⟨jU,o7,s.toNat,ys,by rw[ss];rfl,Ys _ _ hys,Q,Q,λq H8 hq s8 fq=>?_⟩;have s58:=Ys.trans s8;have St8:=Hg.same s58;have UG:=Az (s:=s.toNat) g.en (r9 (p:=(↑(sh s):Nat)) g.cl (g.own s) ei);have hl3:↑(af.set s.toNat (eV sh (↑(sh s):Nat) (own af s) (bz IX)))=↑af:=List.length_set
  have Tu:∀ es∈af.set s.toNat (eV sh (↑(sh s):Nat) (own af s) (bz IX)),↑es<=600:=λes he=>by
   rcases List.mem_or_eq_of_mem_set he with z|z
   ·have:=g.es es z;lia
   ·rw[z];exact l6
  have R8:iy (λ_=>False) H8 q (af.set s.toNat (eV sh (↑(sh s):Nat) (own af s) (bz IX))):=⟨_,hq,bV.set _ (al5.mono λv es ⟨b,e,K,hb⟩=>⟨b,e,λz=>z,s58 _ _ hb⟩) ⟨o7,rfl,λz=>z,s8 _ _ ho7⟩⟩;have MG:=Ay UG
  have R5:sW (af.set s.toNat (eV sh (↑(sh s):Nat) (own af s) (bz IX))):=g.sn.rk.sub (AA is) λy hy=>by
   let⟨y0,my⟩:=bu.mp hy;refine bu.mpr ⟨y0,(r9 (N:=λe=>e∈own af s\/0<=e) (λe he x hx=>?_) (λe he=>.inl he) (λe he=>.inr (e0 e he)) _ my).resolve_right ∅⟩;unfold bq at hx;split at hx
   ·rename_i c;rcases he with he|he
    ·have z:=g.own s e he;rcases z with z|z
     ·lia
     ·exact .inr (g.in_ (-1-e) ∅ z.2 x hx).1
    ·lia
   ·rw[List.mem_singleton.mp hx];exact he
  let⟨f',Kh⟩:=wY R5;refine⟨Y,Y,_,q,_,s,f',rfl,R8,Q,(λes he=>by have:=Tu es he;lia),MG,is.1,Q,R5,Kh,λb H9 s9 bt bf=>⟨b,rfl,?_⟩⟩;have s59:=s58.trans s9;have XF:=Hg.same s59
  cases b with
  | false=>exact dM (k U W pe af aF H9 XF rfl ∅ ∅ gd)
  | true =>
   have XE:Good ↑aL (af.set s.toNat (eV sh (↑(sh s):Nat) (own af s) (bz IX))):=⟨UG,R5,Q,f',Kh,bt rfl⟩;let⟨fb,B⟩:=XE.bears;have bd3:∀ q∈IX,0<=q.1/\q.1<q.2/\q.2<=(↑aL:Nat):=λq h=>by have:=d4 q h;exact⟨this.1,this.2.1,this.2.2.1⟩
   refine ji ⟨Y,XF.MW.m ⟨Y,Y,Y,U,x,q4,pe,aF,aL,nW,bZ,IX,s,(↑(sh s):Nat),af,rfl,XF.MW,hr5.same s59,⟨Q,λq h=>by have:=d4 q h;exact⟨⟨Q,Q⟩,⟨Q,Q⟩⟩⟩,Q,XF.lst,Q,Q,Q,Gy ∅ ∅,Gy ∅ ∅,is,PZ bd3,⟨sh,g.sn,⟨Q,Q⟩,λes vV=>?_⟩⟩⟩;rw[AA is]at vV;cases vV;unfold Xl;rw[vz,qR _ λq h=>by have:=d4 q h;lia,Aw _ ∅];refine B.Ph λU' HA LA Yt=>?_;have StA:=(XF.Xs LA (rows':=af.set s.toNat (eV sh (↑(sh s):Nat) (own af s) (bz IX))) (by simp) Yt).1;have nq:=Hg.new (aU Ys fq);have no:=Hg.new (aU s6 fo7);have cq:=Yt.off (s9 _ _ hq) nq.1;have co:=Yt.off (s9 _ _ (s8 _ _ ho7)) no.1;have wuA:Bj W HA w ik jU ps vl aL pe af:=(Xz.fr (λa ob e _=>s59 _ _ e) λa xs e=>s59 _ _ e).fr (λa ob e wa=>Yt.2.1 _ _ e λy=>(Hg.du a y).1 wa) Yt.2.2;refine⟨Y,Y,StA.done wuA (Yt.2.1 _ _ (s59 _ _ hys) λy=>(Hg.du _ y).1 afX) cq.1 co.1 ⟨cq.2,nq.2⟩ ⟨co.2,no.2⟩ ∅ rfl rfl λW' HB StB=>?_⟩;exact k U' W' _ _ _ HB StB List.length_set (by rw[cX];exact fT _) (by rw[cX];exact fT _) XE
class inductive Qa
 | mk (W:Addr->Prop) (w o:Addr) (aL:iF) (pe:iG) (af:cD) (ns:List Int) (_:vs=[↥w,↥o]) (_:Wo W H w aL pe af) (_:H o=⇑(.lst (ns.map V.int))) (_:↑ns<=1000) (_:∀ a∈ns,0<=a/\a<(↑aL:Nat)) (_:∀ H',aJ H H'->Q (.str (fk (ns.map (DR aL)))) H')
theorem rE:aH ["_law_world_here","_law_numbers","_law_signs","_law_number"] ["_law_world_here","_law_numbers"] (aB uf):=fc
theorem GG:‹(1,95,["_law_world_here","_law_numbers"],Qa)›:=λD=>by
 refine fH D.aaF.F rE λcJ A zn s0 H vs Q E hr h=>?_;let⟨W,w,o,aL,pe,af,ns,rfl,wo,ho,ln,hin,k⟩:=h;have hu:=gF hr;exists _,(ao (aW (i:=2) rE.nd (bO aj)) (ao (dN PassesOwn.never rfl (cz (pv 1)) (bW (i:=3) rE.nd) (ay (bS (br wm (pv 3) (gJ hu (pv 0) bP) rfl) (ay (aV (dI qm jQ jR bT (pv 2) (aa bP aj)))) (ay (aV (dI qm jQ jR bT (pv 2) (aa (bI dh (bI bw (gJ hu (pv 0) bP) (pv 3)) aC) aj))))))) (ay (aN (dI PySem.F.plainAttrs_str PySem.F.slot_str_join PySem.F.type_str_join zR bP (aa (pv 2) aj))))));let⟨ik,jU,ps,vl,wu⟩:=id wo;let⟨as,Et,pa⟩:=id wu.hi;refine⟨iZ,λq hq=>?_⟩;have s1:=au hq (.lst []);refine⟨Y,o,rfl,⟨_,bC.of (s1 _ _ ho)⟩,dz (K:=K) (a:=o) (xs:=ns.map V.int) (λi σ H2=>∃ u:Option V,σ=[⇑↥w,⇑↥o,⇑↥q,u]/\H2 q=⇑(.lst (((ns.take i).map (DR aL)).map yU))/\aJ H H2) ⟨none,rfl,ah,s1⟩ (λi σ H2 _ h=>by let⟨_,_,_,s2⟩:=h;exact bC.of (s2 _ _ ho)) ?_ ?_⟩
 ·rintro i v σ H2 hi ⟨u,rfl,h2,s2⟩;rw[gf]at hi;let⟨a,ea,rfl⟩:=Option.map_eq_some_iff.mp hi;have il:=(List.getElem?_eq_some_iff.mp ea).1;let⟨a0,a1⟩:=hin a (oA ea);obtain⟨t,et⟩:∃ t,as[a.toNat]?=⇑t:=⟨_,qB (by rw[Paired.length pa];lia)⟩;let⟨p,ep,ht⟩:=ur pa et;have zv:=jw.k (k:=kVl) (s2 _ _ wu.hw);rw[show cC (tG ik jU ps vl) kVl=⇑↥vl by kernel_rfl]at zv;have zi:=jw.k (k:=kI) (s2 _ _ wu.hw);rw[show cC (tG ik jU ps vl) kI=⇑↥ik by kernel_rfl]at zi;have hat:=dF (xs:=as.map V.ref) (j:=a.toNat) (v:=↥t) (by rw[gf,et];rfl);rw[show ((a.toNat:Nat):Int)=a by lia]at hat;have ea2:DR aL a=p.2:=by unfold DR;rw[ep];rfl
  refine⟨Y,Y,w,Y,zv,vl,[],rfl,.inl (bC.of (s2 _ _ wu.hv)),V,Y,dM ?_⟩;refine⟨Y,.inl ⟨rfl,_,bC.of h2⟩,Y,w,Y,zi,Y,ik,K,V,bC.of (s2 _ _ Et),hat,t,K,V,gV.of (s2 _ _ ht),Vu,q,Z,h2,aQ (by rw[cy,cy,gO];lia),Y,?_,bQ hq s2 (aK q _ _)⟩;rw[ah,take_snoc ea,gU,gU,← ea2];rfl
 ·rintro σ H2 ⟨u,rfl,h2,s2⟩;rw[cy,gP]at h2;exact⟨rfl,Y,q,Y,rfl,h2,by rw[cy];lia,k H2 s2⟩
class inductive IY(C CS CW CB:Addr)
 | mk (U W:Addr->Prop) (x w:Addr) (pe:iG) (aF:iH) (aL:iF) (nW:Nat) (af:cD) (sh:Int->List Int) (f:Int->Int) (s:Nat) (_:vs=[↥w,↥x,.int (s:Nat)]) (_:vW C CS CW CB U H x pe aF aL nW []) (_:pe.getLast?=⇑af) (_:↑pe<=900) (_:Wo W H w aL pe af) (_:Gd ↑aL af sh) (_:qZ af f) (_:s<↑af) (_:∀ H',aJ H H'->Q (.bl true) H')
theorem mK:aH ["_law_world_here","_law_house","_law_sheet","_law_numbers"] ["_law_world_here","_law_house","_law_sheet"] (aB jG):=fc
theorem uH:‹(43,96,["_law_world_here","_law_house","_law_sheet"],(IY C CS CW CB))›:=λD=>by
 have fG:aY P w K mg zt cP 5 _ _ zl3 (wH 4):=ki D 4;refine fH D.aaG.F mK λcJ A zn s0 H vs Q E hr h=>?_;let⟨U,W,x,w,pe,aF,aL,nW,af,sh,f,s,rfl,LB,hl,l2,wo,g,B,sr,k⟩:=h;have hu:=gF hr;have l40:=g.ln;exists _,(ao (aW (i:=3) mK.nd (aI D.LR (kF D 41) hr (aa (gJ hu (pv 0) bP) (aa (pv 2) aj)))) (ao (bS (gg (fN (aI D.MR fG hr (aa (eN (pv 1) D.aS D.aai (Ar D) hr cj (aa (pv 2) aj)) (aa (aI D.aax (yK D) hr (aa (bI bw (gJ hu (pv 0) bP) (pv 2)) aj)) aj))))) (ay (aN iS)) bG) (ao (bS (gg (fN (aI D.MR fG hr (aa (eN (pv 1) D.aS D.OE (iQ D) hr cj (aa (pv 2) aj)) (aa (aI D.aaw (Bp D) hr (aa (pv 3) aj)) aj))))) (ay (aN iS)) bG) (ao (bS (gg (fN (aI D.MR fG hr (aa (eN (pv 1) D.aS D.aaq (yI D) hr cj (aa (pv 2) aj)) (aa (aI D.aaF (GG D) hr (aa (pv 0) (aa (pv 3) aj))) aj))))) (ay (aN iS)) bG) (ao (bS (gg (fN (aI D.MR fG hr (aa (eN (pv 1) D.aS D.aaj (vI D) hr cj (aa (pv 2) aj)) (aa (aI D.Sb (mJ D 41) hr (aa (gJ hu (pv 0) bP) (aa (pv 2) aj))) aj))))) (ay (aN iS)) bG) (ay (aN (aI D.MR fG hr (aa (eN (pv 1) D.aS D.aar (yJ D) hr cj (aa (pv 2) aj)) (aa (ef D.T.dP (pv 3)) aj))))))))));let⟨ik,jU,ps,vl,wu⟩:=id wo;have zr:∀ {H1:Hp},aJ H H1->_:=λ{H1} s=>jw.k (k:=kR) (s _ _ wu.hw);rw[show cC (tG ik jU ps vl) kR=⇑↥jU by kernel_rfl]at zr;have R:=wu.hr.at_;let⟨xs,hxs,al⟩:=id R;have lv:=bV.len al;let⟨rk,rb,dn⟩:=id g.sn.rk;have is:y9 ↑af ((s:Nat):Int):=⟨Q,Q⟩;have ls:=g.sl _ is.1 is.2;let⟨S,SW,d,wl,MY,bl,kn,du,bk,dS,st,op,dw,sg,ow,pw,db,tb,ops,LU⟩:=id LB;obtain⟨es,Be⟩:∃ es,af[s]?=⇑es:=⟨_,qB sr⟩;let⟨v,hv,b,rfl,_,hb⟩:=al.get' Be;have el:=g.es es (oA Be);refine⟨Y,w,Y,zr (aJ.refl _),Y,_,jU,af,(s:Nat),sh,rk,rfl,R,Q,g.sn.sd,is.1,is.2,g.sn.ss,g.sn.ln,dn,by have:=rb s;lia,λo H1 ho s1 fo=>?_⟩;have L1:=(LU.same s1).L;refine⟨Y,x,d,Y,L1.hx,rfl,Y,S,x,d,wl,MY,bl,kn,du,bk,dS,st,op,pe,ops,aF,af,(s:Nat),rfl,L1,hl,Q,l2,is,λes2 abH q2 H2 eK s2 Yh=>?_⟩;rw[Int.toNat_natCast,Be]at abH;cases abH;have mO:=s1.trans s2;refine⟨Y,w,Y,zr mO,Y,jU,K,V,bC.of (mO _ _ hxs),dF hv,b,es,rfl,mO _ _ hb,Q,λq3 H3 G6 s3 f3=>⟨P,rfl,bR.eqv 1 (eK.same s3) G6,λH4 s4=>⟨true,rfl,dM ?_⟩⟩⟩;have Xi:=mO.trans (s3.trans s4);have L4:=(LU.same Xi).L;refine⟨Y,x,d,Y,L4.hx,rfl,Y,S,x,d,wl,MY,bl,kn,du,bk,dS,st,op,pe,ops,aF,af,(s:Nat),rfl,L4,hl,Q,l2,is,⟨sh,g.sn,λo5 H5 ho5 s5 fo5=>?_⟩⟩;have Xr:=Xi.trans s5;have abI:=(s2.trans (s3.trans (s4.trans s5))) _ _ ho;refine⟨Y,o,sh (s:Nat),rfl,abI,Q,λr H6 hr6 s6 f6=>⟨P,rfl,cB.eqv (ho5.same s6) hr6 1,λH7 s7=>⟨true,rfl,dM ?_⟩⟩⟩;have Ys:=s6.trans s7;have SY:=Xr.trans Ys;have ho7:=Ys _ _ abI;refine⟨Y,x,d,Y,(LU.same SY).L.hx,rfl,Y,U,x,pe,aF,aL,nW,af,(s:Nat),sh,rfl,LB.same SY,hl,l2,Q,is,g.sn,ls,g.in_ _ is.1 is.2,λH8 s8=>?_⟩;have s18:=SY.trans s8;refine⟨Y,Y,W,w,o,aL,pe,af,sh (s:Nat),rfl,wo.same s18,s8 _ _ ho7,Q,g.in_ _ is.1 is.2,λH9 s9=>⟨P,rfl,.inl ⟨V⟩,λHA sA=>⟨true,rfl,dM ?_⟩⟩⟩;have Tv:=s8.trans (s9.trans sA);have s1A:=SY.trans Tv;have LA:=(LU.same s1A).L;refine⟨Y,x,d,Y,LA.hx,rfl,Y,S,x,d,wl,MY,bl,kn,du,bk,dS,st,op,pe,ops,aF,af,s,f,rfl,LA,hl,Q,l2,sr,B,λHB sB=>?_⟩;have s1B:=s1A.trans sB;refine⟨Y,w,Y,zr s1B,Y,_,jU,af,(s:Nat),f,rk,rfl,R.same s1B,Q,g.sn.sd,is.1,is.2,B.wt,dn,by have:=rb s;lia,⟨P,rfl,.inl ⟨V⟩,λHC sC=>⟨true,rfl,dM ?_⟩⟩⟩;have s1C:=s1B.trans sC;have LC:=(LU.same s1C).L;refine⟨Y,x,d,Y,LC.hx,rfl,Y,S,x,d,wl,MY,bl,kn,du,bk,dS,st,op,pe,ops,aF,af,(s:Nat),sh,rfl,LC,hl,Q,l2,is,g.sn,ls,λHD sD=>?_⟩;exact⟨Y,o,Y,.inl (bC.of ((Tv.trans (sB.trans (sC.trans sD))) _ _ ho7)),P,rfl,.inl ⟨rfl,by rw[cy]⟩,λHE sE=>k HE (s1C.trans (sD.trans sE))⟩
class inductive GH(C CS CW CB:Addr)
 | mk (U W:Addr->Prop) (x w:Addr) (pe:iG) (aF:iH) (aL:iF) (nW:Nat) (af:cD) (_:vs=[↥w,↥x]) (_:vW C CS CW CB U H x pe aF aL nW []) (_:pe.getLast?=⇑af) (_:↑pe<=900) (_:↑aL<=1000) (_:Wo W H w aL pe af) (_:Good ↑aL af) (_:∀ H',aJ H H'->Q (.bl true) H')
theorem yk:aH ["_law_world_here","_law_house","_law_many"] ["_law_world_here","_law_house"] (aB pL):=fc
def GI(D:Ds K mg aX aZ C CS CW CB CT CD aA XG ci)(jL:aY P w K mg zt cP 43 (aX 96) (aZ 96) ["_law_world_here","_law_house","_law_sheet"] (IY C CS CW CB)):aY P w K mg zt cP 44 (aX 97) (aZ 97) ["_law_world_here","_law_house"] (GH C CS CW CB):=by
 have fG:aY P w K mg zt cP 2 _ _ zl3 (wH 1):=ki D 1;refine fH D.aaH.F yk λcJ A zn s0 H vs Q E hr h=>?_;let⟨U,W,x,w,pe,aF,aL,nW,af,rfl,LB,hl,l2,li,wo,gd,k⟩:=h;have hu:=gF hr;let⟨sh,g⟩:=gd.KA;let⟨fb,B⟩:=gd.bears;have l40:=g.ln;refine⟨_,(ao (aW (i:=2) yk.nd (ef D.T.dP (gJ hu (pv 0) bP))) (ao (bS (PW.pt (sL (gg (fN (aI D.MR fG hr (aa (fQ (pv 1) D.aS D.Wx (qe D) hr cj) (aa (pv 2) aj))))) (v7 (gg (fN (aI D.MR fG hr (aa (fQ (pv 1) D.aS D.aaa (An D) hr cj) (aa (bJ cS (ef D.T.dP (gJ hu (pv 0) bP)) aC) aj)))))))) (ay (aN iS)) bG) (ao (bS (gg (fN (aI D.MR fG hr (aa (fQ (pv 1) D.aS D.aad (rm D) hr cj) (aa (ef D.T.dP (gJ hu (pv 0) bP)) aj))))) (ay (aN iS)) bG) (ay (aN (gW gn (ef D.T.dP (gI (N:=["_law_sheet","_law_world_here","_law_house"]) (mq (sc:=aB pL) (NX:=["_law_world_here","_law_house","_law_many"]) (jx:=[none,some 0,some 1]) rfl rfl rfl nofun nofun rfl nofun rfl nofun) rfl (gK rfl D.T.iN (aa (pv 2) aj)) (λ_ _ _ _ _ _=>(bW (i:=0) (show List.Nodup (["_law_sheet","_law_world_here","_law_house"]:List Str) by decide +kernel))) (λ_ _ _ _ _ _=>C9 (gg (fN (aI D.aaG jL hr (aa (pv 1) (aa (pv 2) (aa (pv 0) aj))))))) (λ_ _ _ _ _ _=>(pv 0)))) aC (bx _))))))),?_⟩;let⟨ik,jU,ps,vl,wu⟩:=id wo;let⟨as,Et,pa⟩:=id wu.hi;have la:=Paired.length pa;let⟨xs,hxs,al⟩:=id wu.hr.at_;have lv:=bV.len al;let⟨UA,Kx,alp⟩:=id wu.hp;have lpv:=bV.len alp;have zr:=jw.k (k:=kR) wu.hw;rw[show cC (tG ik jU ps vl) kR=⇑↥jU by kernel_rfl]at zr;have zp:∀ {H1:Hp},aJ H H1->_:=λ{H1} s=>jw.k (k:=kP) (s _ _ wu.hw);rw[show cC (tG ik jU ps vl) kP=⇑↥ps by kernel_rfl]at zp;have zi:∀ {H1:Hp},aJ H H1->_:=λ{H1} s=>jw.k (k:=kI) (s _ _ wu.hw);rw[show cC (tG ik jU ps vl) kI=⇑↥ik by kernel_rfl]at zi;let⟨S,SW,d,wl,MY,bl,kn,du,bk,dS,st,op,dw,sg,ow,pw,db,tb,ops,LU⟩:=id LB;have lo:=rY LU.L hl;have lp:↑(pT pe)=↑pe:=cy _;exists Y,w,Y,zr,jU,Y,.inl (bC.of hxs);exists Y,x,d,Y,LU.L.hx,rfl,S,x,d,wl,MY,bl,kn,du,bk,dS,st,op,pT pe,ops,aF,rfl,LU.L;rw[lo,lv];refine⟨Y,P,rfl,.inl ⟨V⟩,λH1 s1=>⟨true,rfl,dM ?_⟩⟩;have L1:=(LU.same s1).L;refine⟨Y,x,d,Y,L1.hx,rfl,S,x,d,wl,MY,bl,kn,du,bk,dS,st,op,pT pe,ops,aF,rfl,L1,Y,w,Y,zp s1,ps,Y,.inl (bC.of (s1 _ _ Kx)),Z,P,rfl,.inl ⟨rfl,by rw[lp,lpv]⟩,λH2 s2=>⟨true,rfl,dM ?_⟩⟩;have mO:=s1.trans s2;refine⟨Y,(LB.same mO).m ⟨U,x,pe,aF,aL,nW,[],rfl,LB.same mO,Y,w,Y,zi mO,ik,Y,.inl (bC.of (mO _ _ Et)),P,rfl,.inl ⟨rfl,by rw[cy,la]⟩,λH3 s3=>⟨true,rfl,dM ?_⟩⟩⟩;have Lx:=mO.trans s3;refine⟨Y,(↑af:Nat),rfl,Q,Q,λacc cK=>qS (lo:=0) (k:=((↑af:Nat):Int).toNat) (λi σ H4=>∃ u:Option V,σ=[u,⇑↥w,⇑↥x]/\H4 acc=⇑(.lst [])/\aJ H H4) ⟨none,rfl,ah,Lx.trans (au cK _)⟩ ?_ ?_⟩
 ·rintro j σ H4 hj ⟨u,rfl,h4,s4⟩;rw[Int.zero_add];refine⟨Y,Y,Y,U,W,x,w,pe,aF,aL,nW,af,sh,fb,j,rfl,LB.same s4,hl,l2,wo.same s4,g,B,Q,λH5 s5=>⟨true,rfl,dM ⟨Y,s5 _ _ h4,s4.trans s5⟩⟩⟩
 ·rintro σ H4 ⟨u,rfl,h4,s4⟩;exact⟨acc,Y,.inl (bC.of h4),rfl,k H4 s4⟩
def Tz{n m:Nat}(h:m<=40):Good n (e0 m):=by
 refine⟨λes he e hm=>?_,P6 m,by rw[yl];exact h,λ_=>0,λx es _ he=>?_,λ_ _ _=>(by decide:(0:Int)<=200)⟩
 ·rw[xN he]at hm;cases hm
 ·rw[xN (oA he)];rfl
inductive Qc(C CS CW CB l c x w:Addr)(n:Nat)(H:Hp):Prop
 | mk (U W:Addr->Prop) (pe:iG) (af:cD) (aF:iH) (aL:iF) (_:qx C CS CW CB H l c w x U W pe af pe af aF aL 2 []) (_:1<=↑af) (_:↑pe<=n) (_:↑aF<=n) (_:↑aL<=120) (_:Good ↑aL af)
def Qc.mv{C l c x w:Addr}{n:Nat}{H H':Hp}(h:Qc C CS CW CB l c x w n H)(k:cL l H H')(S:dJ H' l c):Qc C CS CW CB l c x w n H':=by
 let⟨U,W,pe,af,aF,aL,St,r2,lp,ll,li,gd⟩:=h;exact⟨U,W,pe,af,aF,aL,St.mv k S,r2,lp,ll,li,gd⟩
def Qc.src{C l c x w:Addr}{n:Nat}{H:Hp}(h:Qc C CS CW CB l c x w n H):dJ H l c:=by
 let⟨_,_,_,_,_,_,St,_⟩:=h;exact St.src
def Qc.abJ{C l c x w:Addr}{n:Nat}{H:Hp}{Q:VK}{E:XK}(h:Qc C CS CW CB l c x w n H)(n9:n<=700)(k:∀ H',Qc C CS CW CB l c x w (n+1) H'->Q (.bl true) H'):CG C CS CW CB [↥l,↥w,↥x] H Q E:=by
 let⟨U,W,pe,af,aF,aL,St,r2,lp,ll,li,gd⟩:=h;exact⟨l,c,w,x,U,W,pe,af,aF,aL,2,[],rfl,St,r2,Q,Q,Q,gd,λU' W' Ga rows' dm H' St' e1 e2 e3 XE=>k H' ⟨U',W',Ga,rows',dm,aL,St',Q,Q,Q,li,XE⟩⟩
theorem CH:aH ["_law_script","_law_src_here","_law_house","_law_world_here","_law_k"] ["_law_script"] (aB QU):=fc
def all_mk:T3:=by
 intro P w K mg fa q;let⟨dZ,gH,gB,BP,EW,bL,aA,BQ,QV,X,G,hfa,JN,j4,nR,NL,ug,uX,nU,JO,uY,NN,C6,C7,NO,JP,BR,xV,gC,zx,C8,JQ,EX,xRa,q0,q1,q2,q3,q4,q5,q6,q7,q8,q9,BS,q11,q12,q13,q14,q15,q16,q17,q18,q19,q20,q21,q22,q23,q24,q25,q26,q27,q28,q29,q30,q31,q32,q33,q34,q35,q36,q37,q38,q39,q40,q41,q42,q43,q44,q45,q46,q47,q48,q49,q50,q51,q52,q53,q54,q55,q56,q57,q58,q59,q60,q61,q62,q63,q64,q65,q66,q67,q68,q69,q70,q71,q72,q73,q74,q75,q76,q77,q78,q79,q80,q81,q82,q83,q84,q85,q86,q87,q88,q89,q90,q91,q92,q93,q94,q95,q96,q97,q98,z0,z1,z2,z3,z4,z5,z6,z7,z8,z9,z10,z11,z12,BU,sP,sQ,EY,uZ,sR,qP,xRb⟩:=q;let⟨al,ll,cl,kl⟩:=q98;have e:=hfa.symm.trans (mg_of X G al);cases e;obtain⟨fd,F,bF⟩:∃ fd,NG K "law" "law" QU fa fd/\∀ (s:Shared) (v:Value),BindsTo s fd ⟨[v],[]⟩ [("_law_script",v)]:=⟨_,HL (st:=QU) ll cl kl,λs v=>.of_eq rfl⟩;let⟨g0,MJ⟩:=q0.d (ps:=["_law_script"]) X G;let⟨g1,IZ⟩:=q1.d (ps:=["_law_src_here","_law_base"]) X G;let⟨g2,GJ⟩:=q2.d (ps:=["_law_found"]) X G;let⟨g3,I0⟩:=q3.d (ps:=["_law_found","_law_due"]) X G;let⟨g4,XJ⟩:=q4.d (ps:=["row"]) X G;let⟨g5,UH⟩:=q5.d (ps:=["row"]) X G;let⟨g6,Bs⟩:=q6.d (ps:=["row","start","stop"]) X G;let⟨g7,TF⟩:=q7.d (ps:=["row","start","stop"]) X G;let⟨g8,qh⟩:=q8.d (ps:=["self"]);let⟨g9,Ja⟩:=q9.d (ps:=["row"]) X G;let⟨g10,Qd⟩:=BS.d (ps:=["items"]) X G;let⟨g11,XM⟩:=q11.d (ps:=["rows","sheets"]) X G;let⟨g12,D9⟩:=q12.d (ps:=["rows","start","goal"]) X G;let⟨g13,abK⟩:=q13.d (ps:=["rows","sheet"]) X G;let⟨g14,Ea⟩:=q14.d (ps:=["item","weights"]) X G;let⟨g15,AI⟩:=q15.d (ps:=["rows","sheets"]) X G;let⟨g16,KH⟩:=q16.d (ps:=["rows","sheet"]) X G;let⟨g17,MK⟩:=q17.d (ps:=["item","views"]) X G;let⟨g18,Eb⟩:=q18.d (ps:=["rows","sheets"]) X G;let⟨g19,Qe⟩:=q19.d (ps:=["rows","sheet"]) X G;let⟨g20,Qf⟩:=q20.d (ps:=["one","other"]) X G;let⟨g21,Ec⟩:=q21.d (ps:=["items"]) X G;let⟨g22,XN⟩:=q22.d (ps:=["row"]) X G;let⟨g23,XO⟩:=q23.d (ps:=["items","views"]) X G;let⟨g24,Jb⟩:=q24.d (ps:=["items","views","place","others"]) X G;let⟨g25,Jc⟩:=q25.d (ps:=["rows","sheet","place","items"]) X G;let⟨g26,TH⟩:=q26.d (ps:=["items","views","start","stop"]) X G;let⟨g27,Jd⟩:=q27.d (ps:=["rows","sheet","start","stop"]) X G;let⟨g28,Je⟩:=q28.d (ps:=["row"]) X G;let⟨g29,GK⟩:=q29.d (ps:=["deed"]) X G;let⟨g30,Qg⟩:=q30.d (ps:=["state","sheet","items"]) X G;let⟨g31,qj⟩:=q31.d (ps:=["self"]);let⟨g32,Jf⟩:=q32.d (ps:=["self"]);let⟨g33,GL⟩:=q33.d (ps:=["self"]);let⟨g34,GN⟩:=q34.d (ps:=["self","changes"]);let⟨g35,uI⟩:=q35.d (ps:=["self","sheet"]);let⟨g36,sH⟩:=q36.d (ps:=["self","moment"]);let⟨g37,xP⟩:=q37.d (ps:=["self","moment"]);let⟨g38,GO⟩:=q38.d (ps:=["self"]);let⟨g39,Jg⟩:=q39.d (ps:=["self","sheet"]);let⟨g40,rF⟩:=q40.d (ps:=["self"]);let⟨g41,rG⟩:=q41.d (ps:=["self"]);let⟨g42,rH⟩:=q42.d (ps:=["self"]);let⟨g43,Jh⟩:=q43.d (ps:=["self"]);let⟨g44,Ji⟩:=q44.d (ps:=["self","hand","text"]);let⟨g45,GP⟩:=q45.d (ps:=["self","row"]);let⟨g46,AJ⟩:=q46.d (ps:=["self","way"]);let⟨g47,Ed⟩:=q47.d (ps:=["rows","sheet"]) X G;let⟨g48,m5⟩:=q48.d (ps:=["self"]);let⟨g49,AK⟩:=q49.d (ps:=["self","deed","changes"]);let⟨g50,yL⟩:=q50.d (ps:=["self","deed","sheet","items"]);let⟨g51,Bt⟩:=q51.d (ps:=["self"]);let⟨g52,Ef⟩:=q52.d (ps:=["self"]);let⟨g53,AL⟩:=q53.d (ps:=["self","deed","items"]);let⟨g54,AM⟩:=q54.d (ps:=["self"]);let⟨g55,Eg⟩:=q55.d (ps:=["self"]);let⟨g56,sI⟩:=q56.d (ps:=["self","row"]);let⟨g57,Bu⟩:=q57.d (ps:=["self","hand","text"]);let⟨g58,Eh⟩:=q58.d (ps:=["self","sheet","place","row"]);let⟨g59,AN⟩:=q59.d (ps:=["self","sheet"]);let⟨g60,Ei⟩:=q60.d (ps:=["self","sheet","start","stop"]);let⟨g61,Ej⟩:=q61.d (ps:=["self","sheet"]);let⟨g62,yM⟩:=q62.d (ps:=["self","target","place","source"]);let⟨g63,yN⟩:=q63.d (ps:=["self","sheet"]);let⟨g64,yO⟩:=q64.d (ps:=["holes","start"]) X G;let⟨g65,TL⟩:=q65.d (ps:=["holes","address"]) X G;let⟨g66,Ek⟩:=q66.d (ps:=["self","address"]);let⟨g67,sJ⟩:=q67.d (ps:=["self","address"]);let⟨g68,Jj⟩:=q68.d (ps:=["self","address"]);let⟨g69,yP⟩:=q69.d (ps:=["self","row","veil"]);let⟨g70,Bv⟩:=q70.d (ps:=["self","sheet"]);let⟨g71,Bw⟩:=q71.d (ps:=["self","sheet"]);let⟨g72,Jk⟩:=q72.d (ps:=["_law_src_here","_law_few"]) X G;let⟨g73,Jl⟩:=q73.d (ps:=["_law_src_here","_law_many"]) X G;let⟨g74,GQ⟩:=q74.d (ps:=[]) X G;let⟨g75,Jm⟩:=q75.d (ps:=["_law_world_here","_law_rows"]) X G;let⟨g76,Jo⟩:=q76.d (ps:=["_law_rows","_law_sheet","_law_entries"]) X G;let⟨g77,GR⟩:=q77.d (ps:=["_law_row"]) X G;let⟨g78,Jp⟩:=q78.d (ps:=["_law_rows","_law_sheet"]) X G;let⟨g79,Bx⟩:=q79.d (ps:=["_law_rows","_law_sheet"]) X G;let⟨g80,El⟩:=q80.d (ps:=["_law_rows","_law_entry"]) X G;let⟨g81,ML⟩:=q81.d (ps:=["_law_rows","_law_sheet","_law_place","_law_new"]) X G;let⟨g82,MM⟩:=q82.d (ps:=["_law_rows","_law_sheet","_law_start","_law_stop"]) X G;let⟨g83,By⟩:=q83.d (ps:=["_law_rows","_law_sheet"]) X G;let⟨g84,Em⟩:=q84.d (ps:=["_law_numbers"]) X G;let⟨g85,AO⟩:=q85.d (ps:=["_law_entries"]) X G;let⟨g86,Jq⟩:=q86.d (ps:=["_law_rows","_law_sheet"]) X G;let⟨g87,BA⟩:=q87.d (ps:=["_law_src_here","_law_world_here"]) X G;let⟨g88,Jr⟩:=q88.d (ps:=["_law_src_here","_law_world_here","_law_house"]) X G;let⟨g89,GS⟩:=q89.d (ps:=["_law_world_here","_law_house"]) X G;let⟨g90,GU⟩:=q90.d (ps:=["_law_src_here","_law_world_here","_law_house"]) X G;let⟨g91,En⟩:=q91.d (ps:=["_law_rows","_law_sheet","_law_way"]) X G;let⟨g92,xQ⟩:=q92.d (ps:=["_law_house","_law_target","_law_place","_law_source"]) X G;let⟨g93,Eo⟩:=q93.d (ps:=["_law_src_here","_law_world_here","_law_house"]) X G;let⟨g94,BB⟩:=q94.d (ps:=["_law_src_here","_law_world_here","_law_house"]) X G;let⟨g95,Js⟩:=q95.d (ps:=["_law_world_here","_law_numbers"]) X G;let⟨g96,vP⟩:=q96.d (ps:=["_law_world_here","_law_house","_law_sheet"]) X G;let⟨g97,Jt⟩:=q97.d (ps:=["_law_world_here","_law_house"]) X G;have T:Nms mg:=⟨mg_none_of X G z0,mg_none_of X G z1,mg_none_of X G z2,mg_none_of X G z3,mg_none_of X G z4,mg_none_of X G z5,mg_none_of X G z6,mg_none_of X G z7,mg_none_of X G z8,mg_none_of X G z9,mg_none_of X G z10,mg_none_of X G z11,mg_none_of X G z12,λf e=>(UH.m).symm.trans e ▸ mg_of X G uZ,λf e=>(Qe.m).symm.trans e ▸ mg_of X G sR,λf e=>(KH.m).symm.trans e ▸ mg_of X G qP⟩;have G_:Gbs mg:=⟨⟨_,mg_of X G sP⟩,⟨_,mg_of X G sQ⟩,⟨_,mg_of X G EY⟩⟩;have lI:=BU.d X G;let⟨XQ,xmI,x1,x2,x3⟩:=xRa;let⟨xB,xR,xE,xF⟩:=xRb;have jr:Kf K mg BQ QV _ aA:=Pe (mg_of X G XQ) (mg_of X G xmI) xB xR x1 x2 x3 xE xF;have cN:=JN.d X G qj.mt;have jc:=NL.d X G rH.mt;have uv:=JO.d X G qh.mt;have Cm:=NN.d X G rF.mt;have FA:=NO.d X G rG.mt;have aS:=BR.d X G m5.mt;obtain⟨aX,aZ,D⟩:∃ aX aZ,Ds K mg aX aZ bL dZ gH gB BP EW aA BQ QV:=⟨nth [_,_,_,_,_,_,_,_,_,_,_,_,_,_,_,_,_,_,_,_,_,_,_,_,_,_,_,_,_,_,_,_,_,_,_,_,_,_,_,_,_,_,_,_,_,_,_,_,_,_,_,_,_,_,_,_,_,_,_,_,_,_,_,_,_,_,_,_,_,_,_,_,_,_,_,_,_,_,_,_,_,_,_,_,_,_,_,_,_,_,_,_,_,_,_,_,_,_] 0,nth [g0,g1,g2,g3,g4,g5,g6,g7,g8,g9,g10,g11,g12,g13,g14,g15,g16,g17,g18,g19,g20,g21,g22,g23,g24,g25,g26,g27,g28,g29,g30,g31,g32,g33,g34,g35,g36,g37,g38,g39,g40,g41,g42,g43,g44,g45,g46,g47,g48,g49,g50,g51,g52,g53,g54,g55,g56,g57,g58,g59,g60,g61,g62,g63,g64,g65,g66,g67,g68,g69,g70,g71,g72,g73,g74,g75,g76,g77,g78,g79,g80,g81,g82,g83,g84,g85,g86,g87,g88,g89,g90,g91,g92,g93,g94,g95,g96,g97] g0,T,G_,aS,cN,jc,uv,Cm,FA,j4,nR,ug,uX,nU,uY,C6,C7,JP,xV,gC,zx,C8,JQ,EX,lI,jr,MJ,IZ,GJ,I0,XJ,UH,Bs,TF,qh,Ja,Qd,XM,D9,abK,Ea,AI,KH,MK,Eb,Qe,Qf,Ec,XN,XO,Jb,Jc,TH,Jd,Je,GK,Qg,qj,Jf,GL,GN,uI,sH,xP,GO,Jg,rF,rG,rH,Jh,Ji,GP,AJ,Ed,m5,AK,yL,Bt,Ef,AL,AM,Eg,sI,Bu,Eh,AN,Ei,Ej,yM,yN,yO,TL,Ek,sJ,Jj,yP,Bv,Bw,Jk,Jl,GQ,Jm,Jo,GR,Jp,Bx,El,ML,MM,By,Em,AO,Jq,BA,Jr,GS,GU,En,xQ,Eo,BB,Js,vP,Jt⟩;refine⟨fd,bF,λzt _ _=>?_⟩;have MN:aY P w K mg zt cP 1 _ _ ["_law_script"] (T5 K):=IA D;have cG:aY P w K mg zt cP 1 _ _ Yu wG:=fB D;have vQ:aY P w K mg zt cP 3 _ _ GY (CF bL dZ gH gB):=sG D;have GV:aY P w K mg zt cP 1 _ _ [] Kw:=DV D;have GW:aY P w K mg zt cP 9 _ _ UJ (AG bL dZ gH gB):=D7 D;have GX:aY P w K mg zt cP 8 _ _ zl9 (AD bL dZ gH gB):=vN D;have lK:aY P w K mg zt cP 44 _ _ zl7 (D3 41):=IS D;have j3:aY P w K mg zt cP 43 _ _ Yv D5:=Gw D;have Ep:aY P w K mg zt cP 45 _ _ UJ (CG bL dZ gH gB):=Br D lK (vO D) (Bq D) j3;have BC:aY P w K mg zt cP 45 _ _ UJ (CG bL dZ gH gB):=AH D lK (IV D) j3;have jL:aY P w K mg zt cP 43 _ _ Yw (IY bL dZ gH gB):=uH D;have Ju:aY P w K mg zt cP 44 _ _ zl9 (GH bL dZ gH gB):=GI D jL;refine fH F CH λcJ A zn s H vs Q E hr h=>?_;let⟨a,ns,rfl,hS,h63,k⟩:=h;have hu:=gF hr;refine⟨_,(ao (aW (i:=1) CH.nd (aI D.dq0 MN hr (aa (pv 0) aj))) (ao (aW (i:=2) CH.nd (nQ D.aS.X0 vQ (hr.mono (by decide)) rfl D.aS.m D.Z9.b .nil cj)) (ao (aW (i:=3) CH.nd (Ng GV (hr.mono (by decide)) rfl D.RZ.m D.RZ.F.kp D.RZ.b .nil cj)) (ao (bS (gg (fN (aI D.aaA GW hr (aa (pv 1) (aa (pv 3) (aa (pv 2) aj)))))) (ay (aN iS)) bG) (ao (dN PassesOwn.never rfl (gK rfl D.T.iN (aa (aI D.AR cG hr (aa (pv 1) (aa aC aj))) aj)) (bW (i:=4) CH.nd) (ay (aV (aI D.WD GX hr (aa (pv 3) (aa (pv 2) aj)))))) (ao (dN PassesOwn.never rfl (gK rfl D.T.iN (aa (aI D.AR cG hr (aa (pv 1) (aa aC aj))) aj)) (bW (i:=4) CH.nd) (ao (bS (br gn (aI D.AR cG hr (aa (pv 1) (aa aC aj))) aC (bx _)) (ay (aV (aI D.aaE BC hr (aa (pv 1) (aa (pv 3) (aa (pv 2) aj)))))) bG) (ay (bS (gg (fN (aI D.aaD Ep hr (aa (pv 1) (aa (pv 3) (aa (pv 2) aj)))))) (ay (aN iS)) bG)))) (ay (aN (aI D.aaH Ju hr (aa (pv 3) (aa (pv 2) aj))))))))))),?_⟩;refine⟨Y,a,ns,rfl,hS,λl c H1 S1 s1 _ _=>?_⟩;intro x dx fx fdx _;refine⟨x,dx,rfl,ah,λU H2 L2 fU k2=>⟨rfl,?_⟩⟩;have s2:=lJ fx fdx k2;have S2:=S1.same s2
 have fU':∀ a,U a->H1 a=none:=λa z=>by
  rcases fU a z with y|y
  ·rw[y];exact fx
  ·exact ou y
 refine⟨rfl,λW w H3 wo3 fW s3=>?_⟩
 have GA:qx bL dZ gH gB H3 l c w x U W [[]] [] [[]] [] [] [] 0 []:=by
  refine⟨S2.same s3,L2.same s3,rfl,wo3,λa z=>⟨λy=>?_,?_⟩,λa z=>?_⟩
  ·let⟨ob,e⟩:=L2.al z;rw[fW a y]at e;cases e
  ·have n:=S1.ne (fU' a z);exact⟨n.1.symm,n.2.symm⟩
  ·have n:=S2.ne (fW a z);exact⟨n.1.symm,n.2.symm⟩
 refine⟨Y,Y,Y,l,c,w,x,U,W,rfl,GA,λU4 W4 H4 n aL ln4 n2 n4 li ll4 Hf _=>?_⟩;refine⟨true,rfl,dM ?_⟩;have lb:=AF n;refine⟨Y,l,c,5,rfl,Hf.src,E,E,λv H5 v0 v1 S5 k5=>⟨v,rfl,Q,Q,?_⟩⟩;refine jS (lo:=0) (n:=v.toNat) (λj σ H6=>∃ u4:Option V,σ=[⇑↥a,⇑↥l,⇑↥x,⇑↥w,u4]/\∃ (U W:Addr->Prop) (pe:iG) (m:Nat) (aF:iH),qx bL dZ gH gB H6 l c w x U W pe (e0 m) pe (e0 m) aF aL 2 []/\2<=m/\m<=4+j/\↑pe<=10+j/\↑aF<=10+j) ⟨none,rfl,U4,W4,_,n,_,Hf.mv (bY k5) S5,Q,Q,Q,Q⟩ ?_ ?_
 ·rintro j σ H6 hj ⟨u4,rfl,U,W,pe,m,aF,St,m2,m4,lp,ll⟩;have lm:↑(e0 m)=m:=yl;refine⟨Y,Y,l,c,w,x,U,W,pe,e0 m,pe,e0 m,aF,aL,2,[],rfl,St,Q,Q,Q,rfl,Q,⟨_,by rw[zc];exact GC ∅⟩,λU' W' H7 dm e7 P7 _=>?_⟩;rw[zc]at P7;exact⟨Y,U',W',_,m+1,dm,P7,Q,Q,by rw[cX];simp only[kX,qp];lia,Q⟩
 rintro σ H6 ⟨u4,rfl,U5,W5,pe5,m,XR,Hg,m2,m4,lp5,ll5⟩;have lm:↑(e0 m)=m:=yl;refine⟨Y,l,c,17,rfl,Hg.src,E,E,λv2 H7 w0 w1 S7 k7=>⟨v2,rfl,Q,Q,?_⟩⟩;refine jS (lo:=0) (n:=v2.toNat) (λj σ H6=>∃ u4:Option V,σ=[⇑↥a,⇑↥l,⇑↥x,⇑↥w,u4]/\Qc bL dZ gH gB l c x w (20+2*j) H6) ⟨u4,rfl,U5,W5,pe5,e0 m,XR,aL,Hg.mv (bY k7) S7,Q,Q,Q,li,Tz ∅⟩ ?_ ?_
 ·rintro j σ H8 hj ⟨u4,rfl,i8⟩;refine⟨Y,l,c,5,rfl,i8.src,E,E,λz H9 z0 z1 S9 k9=>⟨rfl,Y,?_⟩⟩;have i9:=i8.mv (bY k9) S9
  have nO:∀ {b:Nat} {H:Hp},b<=20+2*j+1->Qc bL dZ gH gB l c x w b H->∀ {Q:VK} {E:XK},(∀ H',Qc bL dZ gH gB l c x w (20+2*(j+1)) H'->Q (.bl true) H')->CG bL dZ gH gB [↥l,↥w,↥x] H Q E:=λ{b H} hb i {Q E} k=>i.abJ ∅ λH' i'=>k H' (by
   let⟨U,W,pe,af,aF,aL,St,r2,lp,ll,li,gd⟩:=i'
   exact⟨U,W,pe,af,aF,aL,St,r2,Q,Q,li,gd⟩)
  refine cT (λ_=>?_) (λ_=>?_)
  ·exact⟨Y,Y,Y,i9.abJ ∅ λHA iA=>⟨Y,Y,Y,nO ∅ iA λHB iB=>⟨true,rfl,dM ⟨Y,iB⟩⟩⟩⟩
  ·exact⟨Y,Y,Y,nO ∅ i9 λHB iB=>⟨true,rfl,dM ⟨Y,iB⟩⟩⟩
 rintro σ HB ⟨u4,rfl,U,W,pe,af,aF,aL,St,r2,lp,ll,li,gd⟩;exact⟨Y,Y,U,W,x,w,pe,aF,aL,2,af,rfl,St.MW,St.lst,Q,Q,St.wo,gd,λH' _=>k H'⟩
end
end gG
theorem PySem.Challenge.cw_inkroot_k40_whole_rings_refused_holds : PySem.Challenge.rw_inkroot_k40_whole_rings_refused.Holds :=
 InkHd.hd2 gG.all_mk
