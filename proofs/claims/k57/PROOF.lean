import PyProof.Rows.All
import KE.KIntText
import KE.KTryMore
import KE.KDictLaws
import KE.KItem
import Open.Pieces
import KE.RegKTryMore
import OpenK.KOwn
import KE.KItemsList
import Lean
import PyProof.EqAt
import PyProof.EqKinds
import PyProof.TupleCall
import PySem.Challenge.RW_inkroot_k57_whole_stirred
set_option Elab.async false
set_option linter.all false
set_option maxRecDepth 100000
set_option maxHeartbeats 4000000
abbrev gS:=List (List (List Int))
abbrev cJ:=List (List Int)
abbrev gW:=List (List Nat)
abbrev gD:=List (Int × Nat)
abbrev E9:List PySem.Str:=["self"]
abbrev VO:List PySem.Str:=["self","sheet"]
abbrev zl2:List PySem.Str:=["self","address"]
abbrev Zd:List PySem.Str:=["_law_src_here","_law_base"]
abbrev zl4:List PySem.Str:=["row","start","stop"]
abbrev YG:List PySem.Str:=["rows","sheet"]
abbrev zl6:List PySem.Str:=["_law_rows","_law_sheet","_law_entries"]
abbrev YH:List PySem.Str:=["_law_rows","_law_sheet"]
abbrev zl8:List PySem.Str:=["_law_rows","_law_entry"]
abbrev zl9:List PySem.Str:=["_law_rows","_law_sheet","_law_place","_law_new"]
abbrev Ze:List PySem.Str:=["_law_rows","_law_sheet","_law_start","_law_stop"]
abbrev Zf:List PySem.Str:=["_law_world_here","_law_deed_here"]
abbrev VP:List PySem.Str:=["_law_src_here","_law_world_here"]
abbrev Zg:List PySem.Str:=["_law_src_here","_law_world_here","_law_house"]
abbrev cB:=@List.length_map.{0,0}
abbrev cT:=@List.length_append.{0}
abbrev gE:=@List.map_append.{0,0}
abbrev fK:=@Nat.le_refl
abbrev jS:=@List.length_cons.{0}
abbrev nI:=@List.mem_cons_of_mem.{0}
abbrev nJ:=@List.mem_of_getElem?.{0}
abbrev qF:=@PySem.F.plainAttrs_list
abbrev tK:=@List.getElem?_eq_getElem.{0}
abbrev mY:=@List.getElem?_map.{0,0}
abbrev gV:=@List.length_singleton.{0}
abbrev gF:=@Bool.false_ne_true
abbrev gr:=@List.length_take.{0}
abbrev fV:=@List.append_nil.{0}
abbrev jV:=@PySem.F.slot_list_append
abbrev jW:=@PySem.F.type_list_append
abbrev gP:=@List.size_toArray.{0}
abbrev gH:=@List.take_length.{0}
abbrev iT:=@List.flatMap_cons.{0,0}
abbrev gG:=@Nat.le_of_lt
abbrev nK:=@List.concat_eq_append.{0}
abbrev gX:=@Nat.le_trans
abbrev pD:=@List.mem_append_right.{0}
abbrev qG:=@List.eq_nil_or_concat.{0}
abbrev jy:=@List.map_cons.{0,0}
abbrev m8:=@List.append_assoc.{0}
abbrev jv:=@Nat.ne_of_lt
abbrev lM:=@List.length_nil.{0}
abbrev tL:=@PyProof.Rows.boot_list
abbrev mh:=@List.foldl_cons.{0,0}
abbrev yO:=@PyProof.Rows.boot_isinstance
abbrev uv:=@List.take_of_length_le.{0}
abbrev tM:=@List.mem_append_left.{0}
abbrev tN:=@List.getLast?_concat.{0}
abbrev qS:=@Nat.lt_of_lt_of_le
abbrev oB:=@Option.some.inj.{0}
abbrev yP:=@List.getElem?_append_left.{0}
abbrev qH:=@List.length_drop.{0}
abbrev zF:=@List.drop_of_length_le.{0}
abbrev wO:=@List.mem_cons_self.{0}
abbrev wQ:=@PySem.W.mg_none_of
abbrev yQ:=@List.flatMap_append.{0,0}
noncomputable section
namespace PySem.W.Fast
local macro_rules |`(universe $i*)=>do return Lean.mkNullNode (←i.mapM fun x=>`(theorem $(Lean.mkIdent (.mkSimple s!"tw{((x.getId.toString.drop 1).foldl (fun n c=>n*62+(c.toNat-(if c≤'9' then 48 else if c≤'Z' then 55 else 61))) 0)}")):ident :True:=⟨⟩))
universe aLKBtYA0Hf5D a5hH1zsmHFOW a57sYkrtuQe0 a7bJx7aEFjVH aEulLJuaoCvh aKeG9dKYaECB aG813xY7VIIX aFDTYsWQYORe aAaRwPdAVDRN a3e7FF9l6VAY a3Mo9JJGT8wI aJkfbS0KLUoJ aHFyb8PGekH2 aEkiV1OUiY6g a6rNedWh4NtS aJ4pF06U7gZ9 aFt38SMGq33A a1u06Y7By9E9 a4It2MoyTAhS a9PD22vqRAqV aAVe9uw81OBr aBLzuZoER8vY aFZBM6gYEVkW a5txS0qS7WdR aByAeIdvX5GL a2EKgMt1S0rm a7BZM2j45NLU aAiFKbfUuld9 a9VkBTQ4iUrH aArbRYask5j7 aB37O95V1OvW a9JtYj6zRZYg aCEuYOi80a3l aAqKb7SqV5Fc aKxoZ3y4lfxK aJJ7lzhf7SDM aD1MqYJKep4n a58nlO7bXGbe aAFeIez0Gq8i a2rwvnnzjVxP a5ZlbsRKIo8E a5so36PAf8qN aG3I72l0BoSe aDVHcG6maFXf a8IM1iptMozX a2Y8OweHrz9w aEVhFaFR3SgO a7O3C4KKXMUT aBPo4oi7mCc7 aE4miOYDVrfm a3aHeCUGeaU9 aG2V8s2VPxGN aDQmxcAEbwOQ a9RVjaDAxHVj aB9g7q8H1Hsk a4lCGCRXTqAJ aC75m4X1MLG3 aLW8k4EMDIlD aHBPQZLHViTJ aLqk6yjofvIM a2qS7D7RzIqd aJmnWU9Egjcr aF14i7h9iWsD a7XxvLyoXVYm aHfQmStXIMzR a4I5KDUjByen a8l8lmdykDG7 a6vZbRBUXYx aFQ1odsXzfwF aLS5J2EwaSfC a75D35hSFuEd a6iJSp0Yjerm a8KZM5q68iVI a20Ul9lpCP8X a1fZcr2JfWP5 a2t9BKbz814V a4FwsuitoQZw a7XDg7zzCNFJ a730c0xPDM5t aAUkYfOC9LRR aAyeLMFFvp3g aDOXaYfP1MbS aFHOscfUEHK4 aFYVR4wdFiVB a73sHH7tTeyo aDlFQGlasJ4M aGWRZqxKuyeZ a4womnjZJmp2 aCAB7UE11Fdw aBAwilJ4QHJK a7uIcd9d3vLM a3Fzm64o0l25 a9jKhNQv906v a4pg6AabsHvw a37GcgDln3Me a8kRmuHl0FPN a8ggkrs4F96Y aL8yphyzYlwt a17UpXFfCVpv aDjVujxNOP9c a5svuMTwTdsY a2qtbaDHfloL aCOu3nkz7ADV aC90teQKDOnq a3bEJIFUONg7 aOwea32FP6u a4SUa13yMEeU a7uu4iiPthV8 aABkUuS0jyC8 a2qyBIOtnEee aFyP0LjHzRhR a3H4xEkkaQov aJoYbbwNioqk a2xOIX9QDJ6W a3Ed0CG9vRiq a7Tz1df64D8a aiubK4mchLz a6tzRz2iGVaz aFeQx6QDvfhx a7Csdbwe80hI a4HbJAqmzyEH aJwRzAEkWcCg aLC2gNQSYLM5 aLJDXjyYLGG7 a7jhxdzqm6MI a8oa6iiYQgzj a2MFXps10RcA aAwra2lokFcJ aBScIkkI91la aB5xDf99JcSo a8i6kxCKHD0j aE9GW3cJrVOY aC8Ujz6vQGTs a3PFrNMNfmoV a9LvStpeE2af aIs6liEgFaBo aLSf5IC9y4uD aLUrd8IEivKd a26pjhbPqUfM aet70q4Ak4S aG7cEztAB6GY aBD8op7PSQgS a4yKGuaieDOl aF1em0pePROY aJIR9LXZUqlS a9pwEawiZjP6 a7PWoQD5VkFs aBA5Iqv3hjmC aJBp0FkwmXfI aHINxPrFiXEo aEyaWzuSfNxV a2HF0EY4WhOc aFt4HPu9oGnS a5mmbA3tsvZp a3aeE3xSIZXj aEr5oKBv929T aCOmlcAYvWFA a5WhoUoslkhA aGCBnljYLnEN aCA8UlzEftrs a2uacNBLBJHr a24uSfVYUjr9 a8mnn5F6QuCr a6V6S145KCk a8dzu15xRwxg a8WzZhUMWzmJ a3B705ukVNGO aigL8bVDNvZ aFYqfmu1YcxK aG5Zqj8QbzFV a4CwR5gIs4TP a4bK4lUTqh09 a5mTa70ZxzRu a7NpTSF4dmjL aHL0Cbz2pJxm aDKAan8YM7WW aDR9sLu6nUKT aHEHoiZIT75n a39jXvdbdSiE aLKL1eVl9KXz aKpZ2r0pRxdO a6wCXNuYyVVZ a7oTqRNng8Ox aBgk9UPVQplF a9uDtKDuxiuF aCnMpE8kSJPX aGcQZVUvXa4v a5zTBfFAW4DI aBscLjPhftLY a6xFv7JNvHRO aHxTVqUdmw0m aHxhx2CUzASr aEdICUCHLn5B aIL6mFtaOnA8 a3xovmZ054k aDRAO3uqYoas aEcQxJuOtRZr aI6qoaGnVF7q a4sbuGrBNPUI aGQa5G8MQBXS a86vV3vwU7Ou a3dci9JwqdxF aFjf9F8hl3By a9kL4Iuyzz2p aDtWvf4yomkr a4xFqpgBcvTe a8ND4OTp18Ea a1dyxMKKhPNA aJWPosgZW8nN a5jRyWY4zPNP aHhMkacA4spn aD7xjV0Tagzz aIrLrMr7ibdJ aAKK29b5PiDR aChGjbLK1So aGHPv4kuMM4i a3Hk2zbSaqMt aKkeEexUBAlO a1Ll2boPt7G a2uv2lggIFZG aLxIiMwluF8u a1OMdvkVEvkm aGEXgX7qWZuB aL9wqGoAKP46 aJd3ObrT8Qe1 a9OklzUZ79Wh aAvDGJr0M7Tr a5f8NPbn8uwO a80Fx1zVfJTi aKEGZV6lSI3u a3JtZjzt7xx5 a1WGPDX0LwT5 aK6JI50ifnOM a16yVsivtbev a2VmTiFbaFE4 aC1AJqLhYP11 a9QHTYJIpLDe aH0Yz8gPg7k2 a57PGA3qJfEK a2MO2y0uMUSt aB4J6AvGxhqN a4IcbT0qpQ67 a9lXGIkC4XAV aEOniX43IyyP a2ltmTHeNjgY a7JDORUAYyUP a7hcQ8XmiN9k aBYuoyEapu4O aKuv5keaui6M aH23xUB0iUQS aKbv6oMU7nSG a3AjN9PyWyvR a9CKyy3wCkOP aJGRbIVsrbNC aGyuv5T1eLZb aG6Qg3y0Parz aAzz9IIJuJPe aH5UDDPSGySU aCWtiaT6D4Cl a19j8vbn8JFW a8CXjukw9iTl aYh5VRWBYZZ a14pHsXEMP2K a3bqp5hWePGR aHwCP14Xhwyr aLQyU4sPkC4w aDiKxJNkTTij a3GfQ5Z84ohJ a60LcFLUiYGR aTex6Nfbq2h aFgLluhDwgPk aFKX71plJnvU aJKNuUsKPU8b a7oGCaUFVp6k aFwPAaqgeBeS aGcTjIIL4f64 aJPuiahwEOQ7 aKQGP3nIV6vR a9RvkO1UOysJ a2djYMOVw4jP aFctDGGPmofy a8mhTpw0Q6yt a5KRutUbj0La a9XKFyO8gLHl aSx0BnxTOgG a4kvKyvYiD3A aCYMOEUGnowc a49EPM84F36F aB2MIR0iN24x aKjoK2pIAzXI a6braBi30Qat aEnkthhKAmOJ aJT4J0ypgA03 aFubDSD0ho9N a8Yewn1rcLpj a5ZAuZV3YXHY aGnAHk2sI84k a6Q5tTVRJj4V aFZrhDosAVQd aLWK6Sc04Kns aFWJlNCMaAkd a2UpLmWApus0 a4TFXIJLzoQ3 aADyIsgBf3pg aHoBTFT29Cms aCDYUMWUKdMc a1aSonRnXWNo a3r1ykluDFIU a9oOFb4N8vLp a1aTKEV6q1U6 aHAmraFxH9qX a1ISK6VsBOcF aAB4bjhbimJD a7I0scw50gZh a5zorkywapH9 aAB53LAPed1m aKrGAl01kPHS aHdvJDhb4vYW aHjkF6kssMP5 aIoy3pnIEq5J a5FpvSOHoD3i a8hCWbDtlOyM a93KwyL5sLns aIZwTM8KB7jM aJ8rqVzCad0g aA97w7W21tH6 aPX7aJeuUIK a7SUsUkokdrt aKU70ZvezjUc aLxoAvQ6XED7 aLUpf4c3LhTb a79Ka6m88pAw a5YCLQkKmy6d aE7ZQkJoPx2h a8p6J0Xp8H6D aD0kYZoAcy8f a5h6A2f9YRTE aIUYDC9k0hfM a3CtTQ2AaO9l aK5iJLWJtt6P a5rOgJbK4NOu aC59kkNJXGkA aAMjf5Kjk387 aHcfflJptrdI aAcIvLdlT5Ek aFPGI93LZq1z aBqsIrqR9TJp aFSuhWXcvVwh aK5fSUbpaSEu aKo4BH6Gxbc5 a2A4jKjPt9Z0 a1hZ66SxzgLV aEGJbeST8wue a51iCbGsjcgG aKeQ7DiTxcuL a6ZHdmCrnF6S a7N9lv2EWOBA a6iGbWCfsypi a2DRP67VKqEr aKsOMoX4fI6J a8rue5IZVTDZ aD8J4vhLracK aLOzn9Jmye5s a1PwEqrFxkjC aKq6v4WGHz3e aKErrrBUhg1u aC5VwNJygFpo a3gJDh25zv1I aJmCEZ1bfCNw aGwPtP83Qa7L a4PN0rAn29wg a1GEcXvLnPlW aItYiS0Td5j5 a7wkWCbkaCBH aJF19jCsM8cE a5siUutIFkqx aCImksVfNtEK a8xaJjeCHzxp aCZaUJ73ICOv aLcTWa3Jgiv2 aEhQ3J48jxY aE1SgDosM3Dv aLP8BAG07VKl aAYMoHvaLrxd aKTsAcAOCiBL aJB1a3JBSOyv a308NdwNSgXm aC83noG4WiPg aD0CA0xjcnLA aG5qyrKuHEql a9r4xHaTWIDg aFsf6FOlXABT a7ckFGHE26ac a4F5xtTGohlb a6nE4gHDWoqd a9M1SHZer2Yo aEH1WivnLaVF a2Vn7gzegtJL a7fBTFE21HRM a9BuZVfYUSEL a2ZjdEE2VxlZ aL8QscTMyIKQ a5fNzUO0zRgD a2jnbZi4UDVB aEI6rSuMfbs6 a50prOpF4sxV aEHOo1nHYF8l aCy7vpwejjj0 aIFSRKizFZxt aHV6bhwIhpAE aAKMgTiMfcFo aGOklBTDqYL7 a2fv188THRRL a8PT59AFH36o aFbwdiSHcCJC aAX97DqzEzx2 aJHdo2SKsRjv a76E3iK6jwZS a6z1uLqofJ7B a10L5WYiFdH4 aJC7wHjc7622 a7nEoXBZ4bqH aGFQ6ddIhWVZ a4MJlRlKDPBo a2qM6ACaotRv a1lMsYY11KYB a7CPwMlGi4vH aANCvuSNKO3S a7SbjMiKT0Fb a59zpB24cDwU a8BrYxgi7Trs aEC6cUS2pKpx a7ZassOFZMAD aGskh4Sno7L1 aE09pvVVrHpj a56jt069pbyD aC9S6wACLqMx aFOvXFbdwoaW a8YmByqjTHT5 aBXCwWso7r8e a4RGEpQxhCaP aCbjR1Zho7Yg aB7PA2vNWIOv a206IHI2RbW3 aEV1ay947NhQ aERBGe2cMrzC a1VrvKpGZZzV aC5DwzeEZFNc aIfv94eWKWkr aAlUOs51jKmc aKKV7jnWMPep aJdv7u33kmCz a7eU1YgfJ3vo a7eYZY6xauNk a5vPr3B06syp aIUXczmi2r9i a7srj8CLJ9xI aKIyhaCRvp2o aJuciYUvv78m aArbCVlZvIZN aq1jehEIwmK aAmj69mJgbNg aUI0z92LMfT aBaQsx1fZ9cq a7rMxmxpC1xE a6UCnAJe41UL aByBNNMflREd aCZvv62ZTH7k aAJsV1yZe2TY aDtj1aaayb4X a9WlAGIZMFji a9jyTqWeYKfB a4SDQ64AI3KV aFTreYnSPDuq a512cLTPJ4I3 aFDxTossOHGS aDGHvpTUWRYr a2XErr3LFB9P a6ww9LKXJw2x aJoEkYta833a aJz6aWBABzsm aE7SIAtPLoc0 aCX1xWricbrH aAP6z4kpCJdX a2kIQOjzbHPB aAlKIUO60gPi aAs8U2VYlPTJ a3RQHCQ9BSbm aCSApVAdG63H a3eHjSPntkDd aHR30Yg8MX6S a9cTyvjI4DmJ aD8k7RCmBkVE aH9wXqjxuMjI a1QpLVTs3BkU a2lqJog4Ex8w a6gqwXLKQsIl aANm8HB6Wkvv aFejlbvCoIgD a4t5kGXqUqzz aHKJBmd2lY0A aL8pvRls5WEl aA0taQWwoelW a1Za62OuMo2y a7eFRKsAQlnF aDBXsqqQXW56 a1M3SNt1UUKQ aJ4hYTQv4fo7 a2GOK2hZfijS a4CrjZRHpBA4 aDMwJokCIbCp aDQKmypJ7SHf aHAZfowg3BDy a2nHh3irBahV a8LteaMKO9fw a1iyuqYH0qtl aJKzbOsj2Sqy a31yOp1eoVxm aFr656GWIJDu arwJt3slvft aCP3hWj612fp aDyfAAA6BZ9I a9h6WuyiPJBQ aAbU69JQy5XE aFETSzBKULtM a1cvwxhLmePZ aJI8M9dnOCjF aEbyzSrnzKFS aWIpTuhuTzv aAGDuiIXWoTs a1wh4ftj8vT3 aBqkIcTNkzEf a8stTmbtlsvL aFRfXeZIsXya aFNe23LHXnPb a8X8lXouSf7B aGrKljBNf6QH aKsiFBZGKZTR a4WwYYhMKMJ a7PbB4HRa2qK a70mXQCUZ4be aMsg88OoSPO a6JLYACV2gRC a5a7KYONNvHG aDQqMcC101z8 aNORogVVjuo a4P4pdzLo9ED aEM0LDrUnng aAbEYklXUIF9 aCyZsE3Z8PQ aw8Uw0n5wWT a5ij5GKLoxuG aFyHpxySxmaN aEiFZOMztiKF aTC5FGGW5P9 aJx68Otmslbs a5OCnoFCx7ti a4utRvwIKbGO aKI2FmHiSZ1r aKmimTuG44G5 a1HPRYBfdIpQ a6o8LTAU8AAC a2zFSE4nkqTh aAZZZlosjo84 aFOcPaN3HD6x aKgA2ee4zP7P a5W1RKxlkt7x a28pW8uF40X8 a2mUq1jsvy3l aEMyPVITWbQN a2s1k96hup2S a8OKUqldZkLt a9cVMwtO1mcX a4fipwF5AU46 a3a4KcrWg6sF aDeMYc5gzbhp a8CzpzdMSclz aGEdnPUkUUbC aAsPwvu3t9CR a8q59CyeAYNU aBt9MXLKA1B8 a5qBKmS8xLG6 aLNZvXdoBMsw a8AySD5P1Uwa aC6j35qhz8ZK aI3c9oqAFFzj aGJMHktAtNMj
end PySem.W.Fast
end
namespace InkHd
open PySem PySem.W PyProof.Rows
def fr(o:Obj):=match o.data with|.freed=>none|_=>some o
noncomputable def pk(s:List Obj):Nat→List Nat→List (Option Obj):=s.rec (fun _ _=>[]) fun o _ h i l=>l.rec [] fun a r _=>(i.beq a).rec (h (i+1) l) (fr o::h (i+1) r)
theorem ps:∀(s:List Obj)(i:Nat)(K:Frag),pk s i (K.map (·.1))=K.map (some ·.2)→∀ a b,K.lookup a=some b→∃ n u,a=i+n∧s[n]?=some u∧fr u=some b
|_,_,[],_,_,_=>nofun
|[],_,_::_,e,_,_=>nomatch (id e:[]=_::_)
|o::s,i,(c,d)::K,e,a,b=>by
 have f:((i.beq c).rec (pk s (i+1) (((c,d)::K).map (·.1))) (fr o::pk s (i+1) (K.map (·.1))):List _)=((c,d)::K).map (some ·.2):=e
 have g:(∃ n u,a=i+1+n∧s[n]?=some u∧fr u=some b)→∃ n u,a=i+n∧(o::s)[n]?=some u∧fr u=some b:=fun⟨n,u,h,k⟩=>⟨n+1,u,by rw[h,Nat.add_assoc,Nat.add_comm 1],k⟩
 cases z:i.beq c with
 |false=>rw[z] at f;exact g∘ps s _ _ f a b
 |true=>
  rw[z] at f;injection (id f:fr o::_=some d::_) with p q;intro h;rw[List.lookup_cons] at h;split at h
  next t=>cases h;exact⟨0,o,(eq_of_beq t).trans (Nat.eq_of_beq_eq_true z).symm,rfl,p⟩
  next=>exact g (ps s _ K q a b h)
noncomputable def kF(K:Params→Frag)(l:List Addr)(e:∀P,l=(K P).map (·.1)):Hook where
 α:=List (Option Obj)
 obs s:=pk s.heap.objs.toList 0 l
 val w:=(K w.params).map (some ·.2)
 says:=InK K
 of w s h a o k:=by
  obtain⟨n,⟨_,_,d,_⟩,p,q,r⟩:=ps _ 0 _ (e w.params▸h) a o k
  rw[p,Nat.zero_add];unfold Heap.get?;rw[←Array.getElem?_toList,q];cases d<;>first|exact r|cases r
 keeps:=(kHook K l e).keeps
theorem kIn_of{K:Params→Frag}{e:∀P,l=(K P).map (·.1)}(Y:(kF K l e).says w h):(K w.params).In h:=Y
local macro_rules |`(tactic|o_head ($_:ident $K $l $e))=>`(tactic|o_head (kF $K $l $e : Hook))
set_option maxRecDepth 100000 in
set_option maxHeartbeats 0 in
open_top hd_k57 for PySem.Challenge.rw_inkroot_k57_whole_stirred
end InkHd
noncomputable section
local macro_rules |`(def $d:declId $s:optDeclSig $v:declVal)=>if v.raw[1].isOfKind ``Lean.Parser.Term.byTactic then`(theorem $d:declId $(⟨Lean.mkNode ``Lean.Parser.Command.declSig #[s.raw[0],s.raw[1][0]]⟩):declSig $v:declVal)else`(noncomputable def $d:declId $s:optDeclSig $v:declVal)
local macro_rules |`(abbrev $d:declId $s:optDeclSig $v:declVal)=>`(noncomputable abbrev $d:declId $s:optDeclSig $v:declVal)
open PySem
open PyProof
open PySem.W (Frag InstAt callWith_K callWith_K0 cellsFrom_some codeIn emptyDict findIn fnOf handedIn hasDictIn instObj isFn kIn_of keepIn kia_one kitOne kitx_dict kitx_list lookIn makesIn methodCall_KW methodObj mg_of mroIn nsIn plainGet plainGet_of plainOver takerIn typeIn)
local macro_rules
|`(⟨$a,*⟩)=>do
 let mut z:=#[]
 let mut c:=false
 for x in a.getElems do
  match x.raw.getId with
  |`Z=>c:=true;z:=z++#[<-`(_),<-`(_),<-`(rfl),<-`(rfl)]
  |`Y=>c:=true;z:=z++#[<-`(_),<-`(rfl)]
  |`K=>c:=true;z:=z++#[<-`(rfl),<-`(rfl)]
  |`Q=>c:=true;z:=z++#[<-`(_),<-`(_),<-`(_)]
  |`E=>c:=true;z:=z++#[<-`(_),<-`(_)]
  |_=>z:=z.push x
 if c then`(⟨$z,*⟩)else Lean.Macro.throwUnsupported
local macro_rules|`(tactic|exists $a,*)=>`(tactic|refine ⟨$a,*, ?_⟩)
set_option hygiene false in
local macro_rules|`(‹($a,$i,$p,$s)›)=>`(∀D:Ds K mg aY bf C CS CW CB CT CD,bq P w K mg zt cO $a (aY $i) (bf $i) $p $s)
set_option hygiene false in
local macro_rules|`(class inductive $n:declId $b:bracketedBinder* $c:ctor*)=>`(inductive $n $b* (vs:List V)(H:Hp)(Q:VK)(E:XK):Prop $c:ctor*)
set_option hygiene false in
local macro_rules|`(tactic|specialize $e)=>`(tactic|refine $e λcU A zn s H vs Q E hr h=>?_)
local macro_rules|`(nofun)=>`(by decide +kernel)
local macro_rules|`(∅)=>`(by lia)
local macro_rules|`(↑$x)=>`(($x).length)
local macro_rules|`(⇑$x)=>`(some $x)
local macro_rules|`(↥$x)=>`(.ref $x)
local macro_rules|`(tactic|let $p:term:=$e)=>do
 let rec go:Nat->Lean.Term->Lean.MacroM (Lean.TSyntax `rcasesPat)
  |0,_=>Lean.Macro.throwUnsupported
  |n+1,t=>do match t with
   |`(⟨$a,*⟩)=>
    let b←a.getElems.mapM fun x=>do`(Lean.Parser.Tactic.rcasesPatLo|$(←go n x):rcasesPat)
    `(rcasesPat|⟨$b,*⟩)
   |`(_)=>`(rcasesPat|_)
   |_=>`(rcasesPat|$(⟨t.raw⟩):ident)
 `(tactic|obtain $(←go 9 p):rcasesPat:=$e)
namespace L2
open Spec Rows
abbrev dN:=Sum Int Str
def yp:dN->Value->Bool
 | .inl k,v=>Value.isInt k v
 | .inr x,v=>Value.isStrOf x v
def adE(w:World):dN->Int
 | .inl k=>hashInt k
 | .inr x=>hashStr w x
theorem eK:∀ {k:dN} {v:Value},yp k v=true->(∃ i t,k=Sum.inl i/\v=Value.int i t)\/(∃ x t,k=Sum.inr x/\v=Value.str x t)
 | .inl i,v,h=>by
  let⟨t,e⟩:=Value.isInt_shape (k:=i) (v:=v) h;exact .inl ⟨i,t,rfl,e⟩
 | .inr x,v,h=>by
  let⟨t,e⟩:=Value.isStrOf_shape (x:=x) (v:=v) h;exact .inr ⟨x,t,rfl,e⟩
def LL(i:Int)(t:Tok):yp (.inl i) (.int i t)=true:=by simp[yp,Value.isInt]
def LM(x:Str)(t:Tok):yp (.inr x) (.str x t)=true:=by simp[yp,Value.isStrOf]
def VQ(a b:Int):decide ((Sum.inl a:dN)=Sum.inl b)=(a == b):=by
 by_cases e:a=b
 ·subst e;simp
 ·have h:¬ (Sum.inl a:dN)=Sum.inl b:=λq=>e (Sum.inl.inj q);rw[decide_eq_false h];exact (beq_eq_false_iff_ne.mpr e).symm
def VR(a b:Str):decide ((Sum.inr a:dN)=Sum.inr b)=decide (a=b):=by
 by_cases e:a=b
 ·subst e;simp
 ·have h:¬ (Sum.inr a:dN)=Sum.inr b:=λq=>e (Sum.inr.inj q);rw[decide_eq_false h,decide_eq_false e]
theorem VS(a:Int)(b:Str):decide ((Sum.inl a:dN)=Sum.inr b)=false:=decide_eq_false (λq=>nomatch q)
theorem VT(a:Str)(b:Int):decide ((Sum.inr a:dN)=Sum.inl b)=false:=decide_eq_false (λq=>nomatch q)
def eE(prog:Program)(w:World):PySem.KeyKind prog w dN where
 is:=yp
 hash:=adE w
 inj:=λv a b ha hb=>by
  rcases eK ha with ⟨i,t,rfl,rfl⟩|⟨x,t,rfl,rfl⟩
  ·rcases eK hb with ⟨j,u,rfl,e⟩|⟨y,u,rfl,e⟩
   ·injection e with e1 _;rw[e1]
   ·exact nomatch e
  ·rcases eK hb with ⟨j,u,rfl,e⟩|⟨y,u,rfl,e⟩
   ·exact nomatch e
   ·injection e with e1 _;rw[e1]
 byValue:=λk v h=>by
  rcases eK h with ⟨i,t,rfl,rfl⟩|⟨x,t,rfl,rfl⟩ <;> rfl
 pyHash:=λhv h=>by
  rcases eK hv with ⟨i,t,rfl,rfl⟩|⟨x,t,rfl,rfl⟩
  ·exact wpAny_pyHash_int h
  ·exact wpAny_pyHash_str h
 eqBool:=λhu hv h=>by
  rcases eK hu with ⟨i,t,rfl,rfl⟩|⟨x,t,rfl,rfl⟩
  ·rcases eK hv with ⟨j,u,rfl,rfl⟩|⟨y,u,rfl,rfl⟩
   ·rw[VQ]at h;exact wpAny_eqBool_int h
   ·rw[VS]at h;exact SeqAt.EqAt.int_str i t y u _ _ _ _ h
  ·rcases eK hv with ⟨j,u,rfl,rfl⟩|⟨y,u,rfl,rfl⟩
   ·rw[VT]at h;exact SeqAt.EqAt.str_int x t j u _ _ _ _ h
   ·rw[VR]at h;exact wpAny_eqBool_str h
 «strs»:=λk x t v h=>by
  rcases eK h with ⟨i,u,rfl,e⟩|⟨y,u,rfl,e⟩
  ·exact nomatch e
  ·injection e with e1 _;subst e1
   cases v <;> rfl
theorem Fb(prog:Program)(w:World)(i:Int)(t:Tok):(eE prog w).is (.inl i) (.int i t)=true:=LL i t
theorem Fc(prog:Program)(w:World)(x:Str)(t:Tok):(eE prog w).is (.inr x) (.str x t)=true:=LM x t
end L2
namespace L2
open Spec Rows
inductive V where
 | fT | bl (b:Bool) | int (i:Int) | str (x:Str) | Ie (b:Array UInt8) | UJ (b:UInt64) | ref (a:Addr) | ty (n:String)
 deriving DecidableEq
def RelV:V->Value->Prop
 | .fT,u=>u=Value.none
 | .bl b,u=>u=Value.bool b
 | .int i,u=>∃ t,u=Value.int i t
 | .str x,u=>∃ t,u=Value.str x t
 | .Ie b,u=>∃ t,u=Value.bytes b t
 | .UJ b,u=>∃ t,u=Value.float b t
 | .ref a,u=>u=Value.ref a
 | .ty n,u=>u=Value.type n
abbrev b8:List V->List Value->Prop:=Paired RelV
theorem b8.length{xs:List V}{us:List Value}(r:b8 xs us):↑xs=↑us:=Paired.length r
theorem b8.get:∀ {xs:List V} {us:List Value} {i:Nat} {x:V},b8 xs us->xs[i]?=⇑x->∃ u,us[i]?=⇑u/\RelV x u
 | _,_,_,_,.nil,e=>by simp at e
 | _,_,0,_,.cons r _,e=>by simp at e;subst e;exact⟨Y,r⟩
 | _,_,i+1,x,.cons _ t,e=>by
  let⟨u,h1,h2⟩:=b8.get (i:=i) (x:=x) t (by simpa using e);exact⟨u,by simpa using h1,h2⟩
theorem b8.set{x:V}{u:Value}(r:RelV x u):∀ {xs:List V} {us:List Value} (i:Nat),b8 xs us->b8 (xs.set i x) (us.set i u)
 | _,_,_,.nil=>.nil
 | _,_,0,.cons _ t=>.cons r t
 | _,_,i+1,.cons q t=>.cons q (b8.set r i t)
def b8.append{xs ys:List V}{us ws:List Value}(h:b8 xs us)(s:b8 ys ws):b8 (xs++ys) (us++ws):=by
 induction h with
 | nil=>exact s
 | cons r _ ih=>exact .cons r ih
theorem b8.take:∀ {xs:List V} {us:List Value} (n:Nat),b8 xs us->b8 (xs.take n) (us.take n)
 | _,_,0,_=>.nil
 | _,_,_+1,.nil=>.nil
 | _,_,n+1,.cons r t=>.cons r (b8.take n t)
theorem b8.drop:∀ {xs:List V} {us:List Value} (n:Nat),b8 xs us->b8 (xs.drop n) (us.drop n)
 | _,_,0,r=>r
 | _,_,_+1,.nil=>.nil
 | _,_,n+1,.cons _ t=>b8.drop n t
def qI:Option V->Option Value->Prop
 | some v,some u=>RelV v u
 | none,none=>True
 | _,_=>False
def KV{κ:Type}:List (κ × V)->List (κ × Value)->Prop:=Paired λ(p:κ × V) (q:κ × Value)=>p.1=q.1/\RelV p.2 q.2
def kV:dN->V
 | .inl i=>.int i
 | .inr x=>.str x
inductive HO where
 | lst (xs:List V)
 | tup (xs:List V)
 | dK (kvs:List (dN × V)) | dT (kvs:List (List dN × V))
 | set (S:Int->Bool) (n:Nat)
 | ins (C dx:Addr) (fs:List (Str × V))
 | own (x:Addr)
 | xd (fs:List (Str × V))
 | met (f x:Addr)
 | Fd (lo hi:Int)
 | Ks (o:Obj) (u:HO)
 | UK (ps:Array Value)
 | ext (φ:Heap->Prop)
abbrev Hp:=Addr->Option HO
def aN(H:Hp)(a:Addr)(o:HO):Hp:=λb=>if b=a then some o else H b
def af{H:Hp}{a:Addr}{o:HO}:aN H a o a=⇑o:=by unfold aN;rw[if_pos rfl]
def aL{H:Hp}{a b:Addr}{o:HO}(h:b≠a):aN H a o b=H b:=by unfold aN;rw[if_neg h]
def cK{H:Hp}{a b:Addr}{o u:HO}(h:H a=⇑o)(h':H b=⇑u)(d:o≠u:=by intro z;cases z):a≠b:=by
 intro e;subst e;rw[h]at h';exact d (oB h')
def aA{H:Hp}{a b:Addr}{o:HO}(h:H a=⇑o)(h':H b=none):a≠b:=by
 intro e;subst e;rw[h]at h';cases h'
section
variable (P:Program) (w:World)
def fC(H:Hp)(h:Heap)(a:Addr):HO->Prop
 | .lst xs=>↑xs<=sizeLine/\∃ (aP:List Value) (n:Nat),b8 xs aP/\h.get? a=some { cls:=.type "list",data:=.seq aP.toArray n }
 | .tup xs=>↑xs<=sizeLine/\∃ aP:List Value,b8 xs aP/\IsTup h a aP.toArray
 | .dK kvs=>↑kvs<=sizeLine/\(a == sysModules)=false/\∃ vs,KV kvs vs/\h.DictOf (eE P w) a vs
 | .dT kvs=>↑kvs<=sizeLine/\(a == sysModules)=false/\∃ xs:List (List dN × Addr × Value),
   Paired (λ(p:List dN × V) (q:List dN × Addr × Value)=>p.1=q.1/\H q.2.1=⇑(.tup (p.1.map kV))/\RelV p.2 q.2.2) kvs xs/\
   ∃ o es ep,h.get? a=⇑o/\o.ExactDict/\o.data=.dict es ep/\es.toList=xs.map (entryOfKey (tupleKind (eE P w)))/\(xs.map (·.1)).Nodup
 | .set S n=>h.SetOf (intKind P w) a S n
 | .ins C dx fs=>H dx=⇑(.own a)/\↑fs<=1000/\dx≠a/\h.get? a=⇑(instObj C dx)/\
   ∃ mA,h.Ns1 dx mA/\(∀ f,qI (fs.lookup f) (mA f))/\PySem.Within mA (fs.map (·.1))
 | .own _=>∃ o,h.get? a=⇑o
 | .xd fs=>∃ mA,h.Ns1 a mA/\∀ f,qI (fs.lookup f) (mA f)
 | .Fd lo hi=>∃ t u v,h.get? a=some { cls:=.type "range",data:=.fields #[.int lo t,.int hi u,.int 1 v] }
 | .Ks o u=>h.get? a=⇑o/\fC H h a u
 | .UK ps=>h.get? a=some { cls:=.none,data:=.fields ps }
 | .met f x=>h.get? a=⇑(methodObj ↥f ↥x)
 | .ext φ=>φ h/\(∃ o,h.get? a=⇑o)/\∀ h1 h2:Heap,φ h1->(∀ o,h1.get? a=⇑o->h2.get? a=⇑o)->φ h2
def vq(H:Hp)(h:Heap):Prop:=∀ a o,H a=⇑o->fC P w H h a o
end
section
variable {P:Program} {w:World} {H H':Hp} {h h':Heap} {a:Addr} {o:HO}
def fC.lt(x:fC P w H h a o):a<h.objs.size:=by
 cases o with
 | lst xs=>let⟨_,_,_,_,e⟩:=x;exact Heap.lt_size e
 | tup xs=>let⟨_,_,_,p⟩:=x;exact p.lt
 | dK kvs=>let⟨_,_,_,_,o,_,_,e,_⟩:=x;exact Heap.lt_size e
 | dT kvs=>let⟨_,_,_,_,o,_,_,e,_⟩:=x;exact Heap.lt_size e
 | set S n=>let⟨o,_,_,_,e,_⟩:=x;exact Heap.lt_size e
 | ins C dx fs=>let⟨_,_,_,e,_⟩:=x;exact Heap.lt_size e
 | own y=>let⟨_,e⟩:=x;exact Heap.lt_size e
 | xd fs=>let⟨_,⟨_,_,_,e,_⟩,_⟩:=x;exact Heap.lt_size e
 | Fd lo hi=>let⟨_,_,_,e⟩:=x;exact Heap.lt_size e
 | Ks ob u=>let⟨e,_⟩:=x;exact Heap.lt_size e
 | UK ps=>exact Heap.lt_size (show h.get? a=⇑_ from x)
 | met f y=>exact Heap.lt_size (show h.get? a=⇑_ from x)
 | ext φ=>let⟨_,⟨_,e⟩,_⟩:=x;exact Heap.lt_size e
def Paired.Ig{α β:Type}{F G:α->β->Prop}{l₁:List α}{l₂:List β}(h:Paired F l₁ l₂)(f:∀ a b,F a b->G a b):Paired G l₁ l₂:=by
 induction h with
 | nil=>exact .nil
 | cons r _ ih=>exact .cons (f _ _ r) ih
theorem fC.stay(x:fC P w H h a o)(k:∀ b u,(b=a\/H b=⇑(.own a))->h.get? b=⇑u->h'.get? b=⇑u)
  (ho:∀ b,H b=⇑(.own a)->H' b=⇑(.own a)) (ht:∀ b xs,H b=⇑(.tup xs)->H' b=⇑(.tup xs)):fC P w H' h' a o:=by
 induction o with
 | lst xs=>let⟨z,aP,n,r,e⟩:=x;exact⟨z,aP,n,r,k _ _ (.inl rfl) e⟩
 | tup xs=>let⟨z,aP,r,ob,e,c⟩:=x;exact⟨z,aP,r,ob,k _ _ (.inl rfl) e,c⟩
 | dK kvs=>let⟨z,y,vs,r,ob,es,ep,e,c⟩:=x;exact⟨z,y,vs,r,ob,es,ep,k _ _ (.inl rfl) e,c⟩
 | dT kvs =>
  let⟨z,y,xs,r,ob,es,ep,e,c⟩:=x;exact⟨z,y,xs,Paired.Ig r λp q z=>⟨z.1,ht _ _ z.2.1,z.2.2⟩,ob,es,ep,k _ _ (.inl rfl) e,c⟩
 | set S n=>let⟨ob,es,ep,t,e,c⟩:=x;exact⟨ob,es,ep,t,k _ _ (.inl rfl) e,c⟩
 | ins C dx fs =>
  let⟨d,z,ne,e,mA,⟨od,es,ep,e2,c⟩,r⟩:=x;exact⟨ho _ d,z,ne,k _ _ (.inl rfl) e,mA,⟨od,es,ep,k _ _ (.inr d) e2,c⟩,r⟩
 | own y=>let⟨ob,e⟩:=x;exact⟨ob,k _ _ (.inl rfl) e⟩
 | xd fs=>let⟨mA,⟨od,es,ep,e,c⟩,r⟩:=x;exact⟨mA,⟨od,es,ep,k _ _ (.inl rfl) e,c⟩,r⟩
 | Fd lo hi=>let⟨t,u,v,e⟩:=x;exact⟨t,u,v,k _ _ (.inl rfl) e⟩
 | Ks ob u ih=>let⟨e,q⟩:=x;exact⟨k _ _ (.inl rfl) e,ih q⟩
 | UK ps =>
  have e:h.get? a=some { cls:=.none,data:=.fields ps }:=x;show h'.get? a=some { cls:=.none,data:=.fields ps };exact k a _ (.inl rfl) e
 | met f y =>
  have e:h.get? a=⇑(methodObj ↥f ↥y):=x;show h'.get? a=⇑(methodObj ↥f ↥y);exact k a _ (.inl rfl) e
 | ext φ=>let⟨p,⟨o,e⟩,st⟩:=x;exact⟨st _ _ p λo q=>k _ _ (.inl rfl) q,⟨o,k _ _ (.inl rfl) e⟩,st⟩
theorem vq.lt(x:vq P w H h)(e:H a=⇑o):a<h.objs.size:=(x a o e).lt
def vq.fresh(x:vq P w H h)(e:h.objs.size<=a):H a=none:=by
 cases q:H a with
 | none=>rfl
 | some u=>exact absurd (qS (x.lt q) e) (Nat.lt_irrefl _)
theorem vq.kept(x:vq P w H h)(k:∀ b u,h.get? b=⇑u->h'.get? b=⇑u):vq P w H h':=λa o e =>
 (x a o e).stay (λb u _ q=>k b u q) (λ_ q=>q) λ_ _ q=>q
theorem vq.laid(x:vq P w H h)(k:∀ b u,h.get? b=⇑u->h'.get? b=⇑u)(hp:h.objs.size<=a)(new:fC P w (aN H a o) h' a o):vq P w (aN H a o) h':=λb u e=>by
 have hn:=x.fresh hp;by_cases hb:b=a
 ·subst hb;rw[af]at e;cases e;exact new
 ·rw[aL hb]at e;exact (x b u e).stay (λc v _ q=>k c v q) (λc q=>by rw[aL (aA q hn)];exact q) λc xs q=>by rw[aL (aA q hn)];exact q
end
def Rd(H:Hp)(a:Addr)(u:HO):Prop:=H a=⇑u\/∃ o,H a=⇑(.Ks o u)
def Rd.ok{P:Program}{w:World}{H:Hp}{h:Heap}{a:Addr}{u:HO}(r:Rd H a u)(x:vq P w H h):fC P w H h a u:=by
 rcases r with r|⟨o,r⟩
 ·exact x a u r
 ·let⟨_,q⟩:=x a _ r;exact q
def Zh:Option HO->Prop
 | some (.lst _)=>True
 | some (.dK _)=>True
 | some (.dT _)=>True
 | some (.set _ _)=>True
 | some (.ins _ _ _)=>True
 | some (.ext _)=>True
 | _=>False
section
variable {P:Program} {w:World} {H:Hp} {h h':Heap} {x e:Addr} {o':HO}
theorem vq.write(ok:vq P w H h)(mu:Zh (H x))(he:e=x\/H e=⇑(.own x))(k:∀ b u,b≠e->h.get? b=⇑u->h'.get? b=⇑u)(YI:∃ u,h'.get? e=⇑u)
  (new:fC P w (aN H x o') h' x o'):vq P w (aN H x o') h':=λb u q=>by
 have Zi:∀ c y,H c=⇑(.own y)->c≠x:=λc y r z=>by subst z;rw[r]at mu;exact mu
 have adF:∀ c xs,H c=⇑(.tup xs)->c≠x:=λc xs r z=>by subst z;rw[r]at mu;exact mu
 by_cases hb:b=x
 ·subst hb;rw[af]at q;cases q;exact new
 ·rw[aL hb]at q;by_cases VU:b=e
  ·have q':H b=⇑(.own x):=by
    rcases he with z|z
    ·exact absurd (VU.trans z) hb
    ·rw[VU];exact z
   rw[q]at q';cases q';let⟨v,hv⟩:=YI;exact⟨v,by rw[VU];exact hv⟩
  ·refine (ok b u q).stay (λc v hc r=>k c v ?_ r) (λc r=>by rw[aL (Zi c b r)];exact r) λc xs r=>by rw[aL (adF c xs r)];exact r
   rcases hc with rfl|hc
   ·exact VU
   ·rintro rfl;rcases he with z|z
    ·exact Zi c b hc z
    ·rw[hc]at z;cases z;exact hb rfl
end
structure Un(fs ex:List Addr)(H H':Hp)(h h':Heap):Prop where
 keep:∀ b o,h.get? b=⇑o->H b=none->b∉fs->b∉ex->h'.get? b=⇑o
 slot:∀ b o,h.get? b=⇑o->H b=none->b∈fs->b∉ex->∃ sl,h'.get? b=some { o with slots:=sl }
 free:∀ b o,h.get? b=⇑o->H b=none->b∉ex->H' b=none
 there:∀ b o,h.get? b=⇑o->b∉ex->∃ o',h'.get? b=⇑o'
 tups:∀ b xs,H b=⇑(.tup xs)->H' b=⇑(.tup xs)
 Du:∀ b o u,H b=⇑(.Ks o u)->H' b=⇑(.Ks o u)
 Fe:∀ b ps,H b=⇑(.UK ps)->∃ more,H' b=⇑(.UK (ps++more))
section
variable {fs YJ ex ex':List Addr} {H H1 H2:Hp} {h h1 h2 h':Heap} {a x e:Addr} {o:HO}
def Un.any(u:Un fs ex H H1 h h1){b:Addr}{ob:Obj}(q:h.get? b=⇑ob)(n:H b=none)(hx:b∉ex):∃ sl,h1.get? b=some { ob with slots:=sl }:=by
 by_cases hb:b∈fs
 ·exact u.slot b ob q n hb hx
 ·exact⟨ob.slots,u.keep b ob q n hb hx⟩
theorem Un.kept(k:∀ b u,h.get? b=⇑u->h'.get? b=⇑u):Un fs ex H H h h' :=
 ⟨λb ob q _ _ _=>k b ob q,λb ob q _ _ _=>⟨ob.slots,k b ob q⟩,λ_ _ _ n _=>n,λb ob q _=>⟨ob,k b ob q⟩,λ_ _ q=>q,λ_ _ _ q=>q,λ_ ps q=>⟨#[],by rw[q];simp⟩⟩
theorem Un.refl:Un fs ex H H h h:=Un.kept λ_ _ q=>q
theorem Un.laid(k:∀ b u,h.get? b=⇑u->h'.get? b=⇑u)(hp:h.objs.size<=a)(hn:H a=none):Un fs ex H (aN H a o) h h' where
 keep:=λb u q _ _ _=>k b u q
 slot:=λb u q _ _ _=>⟨u.slots,k b u q⟩
 free:=λb u q n _=>by rw[aL (jv (qS (Heap.lt_size q) hp))];exact n
 there:=λb u q _=>⟨u,k b u q⟩
 tups:=λb xs q=>by rw[aL (aA q hn)];exact q
 Du:=λb u xs q=>by rw[aL (aA q hn)];exact q
 Fe:=λb ps q=>⟨#[],by rw[aL (aA q hn),q];simp⟩
def Un.write(mu:Zh (H x))(he:e=x\/H e=⇑(.own x))(k:∀ b u,b≠e->h.get? b=⇑u->h'.get? b=⇑u)(YI:∃ u,h'.get? e=⇑u):Un fs ex H (aN H x o) h h':=by
 have hx:∀ b,H b=none->b≠x:=λb n z=>by subst z;rw[n]at mu;exact mu
 have hb:∀ b,H b=none->b≠e:=λb n z=>by
  subst z;rcases he with r|r
  ·exact hx b n r
  ·rw[n]at r;cases r
 have hm:∀ b u,H b=⇑u->¬ Zh (⇑u)->b≠x:=λb u q nm z=>by subst z;rw[q]at mu;exact nm mu
 refine⟨λb u q n _ _=>k b u (hb b n) q,λb u q n _ _=>⟨u.slots,k b u (hb b n) q⟩,λb u q n _=>by rw[aL (hx b n)];exact n,λb u q _=>?_, λb xs q=>by rw[aL (hm b _ q λz=>z)];exact q,λb u xs q=>by rw[aL (hm b _ q λz=>z)];exact q,λb ps q=>⟨#[],by rw[aL (hm b _ q λz=>z),q];simp⟩⟩;by_cases VU:b=e
 ·subst VU;exact YI
 ·exact⟨u,k b u VU q⟩
end
def trk(h:Heap)(H:Hp):List Addr:=(List.range h.objs.size).filter λa=>(H a).isSome
def Dv(h:Heap)(H:Hp):Heap:=PySem.W.hideAll h (trk h H)
theorem LN(h:Heap)(H:Hp):(Dv h H).objs.size=h.objs.size:=PySem.W.hideAll_size _ _
theorem NZ{h:Heap}{H:Hp}{b:Addr}{o:Obj}(e:h.get? b=⇑o)(n:H b=none):(Dv h H).get? b=⇑o :=
 PySem.W.hideAll_get _ e λhm=>by
  have q:(H b).isSome=true:=(List.mem_filter.mp hm).2;rw[n]at q;simp at q
def RC{h:Heap}{H:Hp}{b:Addr}{o:Obj}(e:(Dv h H).get? b=⇑o):h.get? b=⇑o/\H b=none:=by
 have e':h.get? b=⇑o:=PySem.W.of_hideAll (trk h H) e;exists e'
 cases q:H b with
 | none=>rfl
 | some x =>
  have hm:b∈trk h H:=List.mem_filter.mpr ⟨List.mem_range.mpr (Heap.lt_size e'),by simp[q]⟩;have z:(Dv h H).get? b=none:=PySem.W.hideAll_none (trk h H) hm;rw[z]at e;cases e
end L2
namespace L2
open Spec Rows
structure Mod(K:Frag)(mg:Str->Option Value)(zt:Heap):Prop where
 kin:K.In zt
 glob:zt.Ns mainGlobals mg
 blt:∃ mb,zt.Ns builtinsNs mb/\∀ x:Str,x≠"__name__"->mb x=bootBuiltins x
 nolimit:zt.NoLimit
structure Cx where
 prog:Program
 w:World
 K:Frag
 mg:Str->Option Value
 zt:Heap
 A:Around
 N:List Str
 s₀:Shared
 H₀:Hp
 env:Env
 zn:List Env
 stack:List Env
 ex:List Addr
 fn:Str->Bool
 calm:Bool
 pn:List (Addr × Obj)
 xe:Value->Shared->Prop
def N1(l:List Env):List Addr:=l.filterMap (·.frame)
abbrev Cx.fs(X:Cx):List Addr:=N1 X.zn
def Vis(sc:Scope)(x:Str):Prop:=sc.names.lookup x=⇑.local\/sc.names.lookup x=⇑.cell\/sc.names.lookup x=⇑.free
def Loc(sc:Scope)(x:Str):Prop:=sc.names.lookup x=⇑.local\/sc.names.lookup x=⇑.cell
def Look(env:Env)(h:Heap)(m:Str->Option Value)(x:Str)(u:Value):Prop :=
 (env.kindOf x=⇑.local/\m x=⇑u)\/((env.kindOf x=⇑.cell\/env.kindOf x=⇑.free)/\∃ c,env.cells.lookup x=⇑c/\h.IsCell c (⇑u))
structure Cx.Ok(X:Cx):Prop where
 mod:Mod X.K X.mg X.zt
 kind:X.env.scope.kind=.function
 glob:X.env.globals=mainGlobals
 blt:X.env.builtins=builtinsNs
 above:X.s₀.heap.objs.size<=X.env.locals
 inj:∀ x y c,X.env.cells.lookup x=⇑c->X.env.cells.lookup y=⇑c->x=y
 has:∀ x,(X.env.kindOf x=⇑.cell\/X.env.kindOf x=⇑.free)->∃ c,X.env.cells.lookup x=⇑c
 Zj:∀ x c,X.fn x=true->X.env.cells.lookup x=⇑c->X.s₀.heap.objs.size<=c
 hd:X.calm=true->X.A.handled=none
 frames:X.A.frames=⇑X.stack
 stk:X.stack=X.zn\/(X.stack=X.env::X.zn/\X.env.frame=⇑X.env.locals)
 exf:∀ b∈X.ex,b≠X.env.locals/\∀ x c,X.env.cells.lookup x=⇑c->c≠b
 bs:∀ b o,X.zt.get? b=⇑o->X.s₀.heap.get? b=⇑o/\X.H₀ b=none
 UL:X.zt.objs.size<=X.s₀.heap.objs.size
 N3:∀ b o,X.zt.get? b=⇑o->b∉X.ex
 RD:∀ b∈X.ex,b∉X.fs
 yR:X.s₀.heap.FunFrames X.zt X.zn
 VW:∀ b∈X.fs,X.H₀ b=none
structure Inv(X:Cx)(ao:List (Addr × Obj))(σ:List (Option V))(H:Hp)(s:Shared):Prop where
 ok:X.Ok
 os:s.os=X.s₀.os
 bare:AllBare s.gens
 zt:Un X.fs X.ex X.H₀ H X.s₀.heap s.heap
 loc:∃ m,s.heap.Ns X.env.locals m/\∀ (i:Nat) (x:Str) (v:V),X.N[i]?=⇑x->σ[i]?=⇑(⇑v)->Vis X.env.scope x->∃ u,RelV v u/\Look X.env s.heap m x u
 cell:∀ x c,X.env.cells.lookup x=⇑c->∃ v,s.heap.IsCell c v
 free:H X.env.locals=none
 tU:∀ x c,X.env.cells.lookup x=⇑c->H c=none
 pin:∀ p∈X.pn++ao,s.heap.get? p.1=⇑p.2/\H p.1=none/\p.1≠X.env.locals/\p.1∉X.fs/\∀ v,p.2.data≠.cell v
 hok:vq X.prog X.w H s.heap
 len:↑σ=↑X.N
section
variable {X:Cx} {ao:List (Addr × Obj)} {σ:List (Option V)} {H H':Hp} {s:Shared} {h':Heap}
theorem Cx.Ok.adG(ok:X.Ok){b:Addr}{o:Obj}(e:X.zt.get? b=⇑o):b∉X.fs:=λhb=>by
 have:=(ok.yR.mem hb).1;rw[e]at this;cases this
theorem Inv.bs(I:Inv X ao σ H s):∀ b o,X.zt.get? b=⇑o->s.heap.get? b=⇑o/\H b=none:=λb o e =>
 ⟨I.zt.keep b o (I.ok.bs b o e).1 (I.ok.bs b o e).2 (I.ok.adG e) (I.ok.N3 b o e),I.zt.free b o (I.ok.bs b o e).1 (I.ok.bs b o e).2 (I.ok.N3 b o e)⟩
theorem Inv.bk(I:Inv X ao σ H s):∀ b o,X.zt.get? b=⇑o->s.heap.get? b=⇑o:=λb o e=>(I.bs b o e).1
theorem Inv.mod(I:Inv X ao σ H s):Mod X.K X.mg X.zt:=I.ok.mod
theorem Inv.yq(I:Inv X ao σ H s):X.K.In s.heap:=I.ok.mod.kin.keeps I.bk
theorem Inv.lt(I:Inv X ao σ H s):X.env.locals<s.heap.objs.size:=let ⟨_,hn,_⟩:=I.loc;hn.lt
theorem Inv.sz(I:Inv X ao σ H s):X.s₀.heap.objs.size<=s.heap.objs.size:=gX I.ok.above (gG I.lt)
theorem Inv.adH(I:Inv X ao σ H s){a:Addr}(h:s.heap.objs.size<=a):a∉X.fs:=λhb=>by
 let⟨_,o,ho,_⟩:=I.ok.yR.mem hb;exact absurd (qS (Heap.lt_size ho) (gX I.sz h)) (Nat.lt_irrefl _)
theorem Inv.VX(I:Inv X ao σ H s):∀ x c,X.env.cells.lookup x=⇑c->c≠X.env.locals:=λx c e z=>by
 let⟨v,o,ho,hd⟩:=I.cell x c e;let⟨m,⟨o',es,ep,LO,hd',_⟩,_⟩:=I.loc;rw[z,LO]at ho;cases ho;rw[hd']at hd;cases hd
def Inv.yR(I:Inv X ao σ H s):s.heap.FunFrames X.zt X.zn:=by
 have all:∀ (l:List Env),(∀ b∈N1 l,b∈X.fs)->X.s₀.heap.FunFrames X.zt l->s.heap.FunFrames X.zt l:=by
  intro l
  induction l with
  | nil=>intro _ _;trivial
  | cons env r ih =>
   intro hs hl;let⟨hk,⟨L,o,hf,hn,ho,hd⟩,hr⟩:=hl;have hL:L∈X.fs:=hs L (by unfold N1;rw[List.filterMap_cons,hf];exact wO);let⟨sl,e⟩:=I.zt.slot L o ho (I.ok.VW L hL) hL λz=>I.ok.RD L z hL;exact⟨hk,⟨L,_,hf,hn,e,hd⟩,ih (λb hb=>hs b (by unfold N1;rw[List.filterMap_cons,hf];exact nI _ hb)) hr⟩
 exact all X.zn (λ_ hb=>hb) I.ok.yR
def Inv.stack(I:Inv X ao σ H s):s.heap.FunFrames X.zt X.stack:=by
 rcases I.ok.stk with e|⟨e,hf⟩
 ·rw[e];exact I.yR
 ·rw[e];let⟨m,hn,_⟩:=I.loc;refine .cons (by rw[I.ok.kind];decide) hf hn ?_ I.yR;exact Heap.get?_none_of_le (gX I.ok.UL I.ok.above)
theorem Inv.wR(I:Inv X ao σ H s):∀ b∈N1 X.stack,b∈X.env.locals::X.fs:=λb hb=>by
 rcases I.ok.stk with e|⟨e,hf⟩
 ·rw[e]at hb;exact nI _ hb
 ·rw[e]at hb;unfold N1 at hb;rw[List.filterMap_cons,hf]at hb;exact hb
theorem Inv.Ku(I:Inv X ao σ H s):∀ b∈N1 X.stack,H b=none:=λb hb=>by
 rcases List.mem_cons.mp (I.wR b hb) with e|hb
 ·rw[e];exact I.free
 ·let⟨_,o,ho,_⟩:=I.ok.yR.mem hb;exact I.zt.free b o ho (I.ok.VW b hb) λz=>I.ok.RD b z hb
theorem Inv.step{g':Array GenState}{t':Nat}{d':Drawn}{ch:List Addr}(I:Inv X ao σ H s)
  (Rf:∀ b∈ch,(b∈X.ex\/X.s₀.heap.objs.size<=b)/\b≠X.env.locals/\(∀ x c,X.env.cells.lookup x=⇑c->c≠b)/\∀ p∈X.pn++ao,p.1≠b)
  (keep:∀ b o,b≠X.env.locals->b∉X.fs->b∉ch->s.heap.get? b=⇑o->H b=none->h'.get? b=⇑o)
  (slot:∀ b o,b≠X.env.locals->b∈X.fs->b∉ch->s.heap.get? b=⇑o->H b=none->∃ sl,h'.get? b=some { o with slots:=sl }) (free:∀ b o,b∉ch->s.heap.get? b=⇑o->H b=none->H' b=none)
  (there:∀ b o,b∉ch->s.heap.get? b=⇑o->∃ o',h'.get? b=⇑o')
  (tups:∀ b xs,H b=⇑(.tup xs)->H' b=⇑(.tup xs)) (Du:∀ b o u,H b=⇑(.Ks o u)->H' b=⇑(.Ks o u)) (Fe:∀ b ps,H b=⇑(.UK ps)->∃ more,H' b=⇑(.UK (ps++more)))
  (ns:∀ m,s.heap.Ns X.env.locals m->h'.Ns X.env.locals m) (hok:vq X.prog X.w H' h') (hg:AllBare g') :
  Inv X ao σ H' { s with heap:=h',gens:=g',drawn:=d',toks:=t' }:=by
 have neL:∀ b o,X.s₀.heap.get? b=⇑o->b≠X.env.locals:=λb o e=>jv (qS (Heap.lt_size e) I.ok.above)
 have neC:∀ b o,X.s₀.heap.get? b=⇑o->b∉X.ex->b∉ch:=λb o e hx hb=>by
  rcases (Rf b hb).1 with z|z
  ·exact hx z
  ·exact absurd (qS (Heap.lt_size e) z) (Nat.lt_irrefl _)
 have cellK:∀ x c,X.env.cells.lookup x=⇑c->∀ v,s.heap.IsCell c v->h'.IsCell c v:=λx c e v ⟨o,ho,hd⟩=>by
  have Zk:c∉ch:=λz=>(Rf c z).2.2.1 x c e rfl;by_cases hc:c∈X.fs
  ·let⟨sl,q⟩:=slot c o (I.VX x c e) hc Zk ho (I.tU x c e);exact⟨_,q,hd⟩
  ·exact⟨o,keep c o (I.VX x c e) hc Zk ho (I.tU x c e),hd⟩
 refine⟨I.ok,I.os,hg,⟨λb o e n hb hx=>?_,λb o e n hb hx=>?_,λb o e n hx=>?_,λb o e hx=>?_,λb xs e=>tups b xs (I.zt.tups b xs e),λb o xs e=>Du b o xs (I.zt.Du b o xs e),λb ps e=>?_⟩,?_,λx c e=>?_,?_,λx c e=>?_,λp hp=>?_,hok,I.len⟩
 ·exact keep b o (neL b o e) hb (neC b o e hx) (I.zt.keep b o e n hb hx) (I.zt.free b o e n hx)
 ·let⟨sl,e1⟩:=I.zt.slot b o e n hb hx;let⟨sl',e2⟩:=slot b _ (neL b o e) hb (neC b o e hx) e1 (I.zt.free b o e n hx);exact⟨sl',e2⟩
 ·let⟨o',e1⟩:=I.zt.there b o e hx;exact free b o' (neC b o e hx) e1 (I.zt.free b o e n hx)
 ·let⟨o',e1⟩:=I.zt.there b o e hx;exact there b o' (neC b o e hx) e1
 ·let⟨m1,e1⟩:=I.zt.Fe b ps e;let⟨m2,e2⟩:=Fe b _ e1;exact⟨m1++m2,by rw[e2,Array.append_assoc]⟩
 ·let⟨m,hn,hl⟩:=I.loc;refine⟨m,ns m hn,λi x v e1 e2 e3=>?_⟩;let⟨u,r,l⟩:=hl i x v e1 e2 e3;exists u,r;rcases l with l|⟨k,c,e,z⟩
  ·exact .inl l
  ·exact .inr ⟨k,c,e,cellK x c e _ z⟩
 ·let⟨v,z⟩:=I.cell x c e;exact⟨v,cellK x c e v z⟩
 ·let⟨m,⟨o,_,_,ho,_⟩,_⟩:=I.loc;exact free _ o (λz=>(Rf _ z).2.1 rfl) ho I.free
 ·let⟨v,o,ho,hd⟩:=I.cell x c e;exact free c o (λz=>(Rf c z).2.2.1 x c e rfl) ho (I.tU x c e)
 ·let⟨e,n,ne,nf,d⟩:=I.pin p hp;have Zk:p.1∉ch:=λz=>(Rf p.1 z).2.2.2 p hp rfl;exact⟨keep p.1 p.2 ne nf Zk e n,free p.1 p.2 Zk e n,ne,nf,d⟩
def Inv.un{t':Nat}(I:Inv X ao σ H s)(u:Un X.fs [] H H' s.heap h')(hok:vq X.prog X.w H' h'):Inv X ao σ H' { s with heap:=h',toks:=t' }:=by
 let⟨m,⟨o,es,ep,ho,r⟩,_⟩:=id I.loc;let⟨sl,hL⟩:=u.any ho I.free (by simp)
 exact I.step (g':=s.gens) (d':=s.drawn) (ch:=[]) (λ_ z=>nomatch z) (λb o _ hb _ e n=>u.keep b o e n hb (by simp)) (λb o _ hb _ e n=>u.slot b o e n hb (by simp)) (λb o _ e n=>u.free b o e n (by simp)) (λb o _ e=>u.there b o e (by simp)) u.tups u.Du u.Fe (λm' hm=>by
  let⟨o',tV,Zl,LO,r'⟩:=hm;rw[ho]at LO;cases LO
  exact⟨_,tV,Zl,hL,r'⟩) hok I.bare
theorem Inv.call{g':Array GenState}{t':Nat}{d':Drawn}{ch:List Addr}(I:Inv X ao σ H s)(u:Un (N1 X.stack) ch H H' s.heap h')(hok:vq X.prog X.w H' h')(hg:AllBare g')
  (Rf:∀ b∈ch,(b∈X.ex\/X.s₀.heap.objs.size<=b)/\b≠X.env.locals/\(∀ x c,X.env.cells.lookup x=⇑c->c≠b)/\∀ p∈X.pn++ao,p.1≠b) :
  Inv X ao σ H' { s with heap:=h',gens:=g',drawn:=d',toks:=t' }:=by
 let⟨m,⟨o,es,ep,ho,r⟩,_⟩:=id I.loc;let⟨sl,hL⟩:=u.any ho I.free λz=>(Rf _ z).2.1 rfl
 exact I.step (ch:=ch) Rf (λb o hL hb hc e n=>u.keep b o e n (λz=>(List.mem_cons.mp (I.wR b z)).elim hL hb) hc) (λb o _ _ hc e n=>u.any e n hc) (λb o hc e n=>u.free b o e n hc) (λb o hc e=>u.there b o e hc) u.tups u.Du u.Fe (λm' hm=>by
  let⟨o',tV,Zl,LO,r'⟩:=hm;rw[ho]at LO;cases LO
  exact⟨_,tV,Zl,hL,r'⟩) hok hg
theorem Inv.turned{t':Nat}{it:Addr}(I:Inv X ao σ H s)(k:∀ b o,b≠it->s.heap.get? b=⇑o->h'.get? b=⇑o)(hn:H it=none)(hL:it≠X.env.locals)
  (h1:it∈X.ex\/X.s₀.heap.objs.size<=it) (h2:∀ x c,X.env.cells.lookup x=⇑c->c≠it) (h3:∀ p∈X.pn++ao,p.1≠it):Inv X ao σ H { s with heap:=h',toks:=t' }:=by
 have UM:∀ b u,H b=⇑u->b≠it:=λb u e z=>by rw[z,hn]at e;cases e
 refine I.step (g':=s.gens) (d':=s.drawn) (ch:=[it]) (λb hb=>?_) (λb o _ _ hc e _=>k b o (λz=>hc (by simp[z])) e) (λb o _ _ hc e _=>⟨o.slots,k b o (λz=>hc (by simp[z])) e⟩) (λ_ _ _ _ n=>n) (λb o hc e=>⟨o,k b o (λz=>hc (by simp[z])) e⟩) (λ_ _ e=>e) (λ_ _ _ e=>e) (λb ps e=>⟨#[],by rw[e];simp⟩) (λm hm=>?_) (λb u e=>?_) I.bare
 ·have e:b=it:=by simpa using hb
  subst e;exact⟨h1,hL,h2,h3⟩
 ·let⟨o,es,ep,ho,r⟩:=hm;exact⟨o,es,ep,k _ o (Ne.symm hL) ho,r⟩
 ·refine (I.hok b u e).stay (λc v hc q=>k c v ?_ q) (λ_ q=>q) λ_ _ q=>q;rcases hc with z|z
  ·rw[z];exact UM b u e
  ·exact UM c _ z
theorem Inv.tok(I:Inv X ao σ H s)(t:Nat):Inv X ao σ H { s with toks:=t }:=I.un (h':=s.heap) (t':=t) Un.refl I.hok
theorem Inv.kept{t':Nat}(I:Inv X ao σ H s)(k:∀ b u,s.heap.get? b=⇑u->h'.get? b=⇑u):Inv X ao σ H { s with heap:=h',toks:=t' }:=I.un (Un.kept k) (I.hok.kept k)
theorem Inv.laid{a:Addr}{o:HO}{t':Nat}(I:Inv X ao σ H s)(k:∀ b u,s.heap.get? b=⇑u->h'.get? b=⇑u)(hp:s.heap.objs.size<=a)(new:fC X.prog X.w (aN H a o) h' a o) :
  Inv X ao σ (aN H a o) { s with heap:=h',toks:=t' }:=I.un (Un.laid k hp (I.hok.fresh hp)) (I.hok.laid k hp new)
theorem Inv.write{x e:Addr}{o:HO}{t':Nat}(I:Inv X ao σ H s)(mu:Zh (H x))(he:e=x\/H e=⇑(.own x))(k:∀ b u,b≠e->s.heap.get? b=⇑u->h'.get? b=⇑u)(YI:∃ u,h'.get? e=⇑u)
  (new:fC X.prog X.w (aN H x o) h' x o):Inv X ao σ (aN H x o) { s with heap:=h',toks:=t' }:=I.un (Un.write mu he k YI) (I.hok.write mu he k YI new)
theorem Inv.Kv(I:Inv X ao σ H s)(h:∀ p∈UN,s.heap.get? p.1=⇑p.2/\H p.1=none/\p.1≠X.env.locals/\p.1∉X.fs/\∀ v,p.2.data≠.cell v):Inv X UN σ H s :=
 ⟨I.ok,I.os,I.bare,I.zt,I.loc,I.cell,I.free,I.tU,λp hp=>(List.mem_append.mp hp).elim (λz=>I.pin p (tM _ z)) (h p),I.hok,I.len⟩
def Ff{N:List Str}(hN:N.Nodup){i j:Nat}{x:Str}(a:N[i]?=⇑x)(b:N[j]?=⇑x):i=j:=by
 let⟨h1,e1⟩:=List.getElem?_eq_some_iff.mp a;let⟨h2,e2⟩:=List.getElem?_eq_some_iff.mp b;exact (List.getElem_inj hN).mp (e1.trans e2.symm)
theorem Ck{M:Model}{A:Around}{E:Value->Shared->Prop}{i:Nat}{x:Str}{v:V}{u:Value}{Q:Unit->Shared->Prop}(I:Inv X ao σ H s)(hN:X.N.Nodup)(hi:X.N[i]?=⇑x)(hx:Loc X.env.scope x)(r:RelV v u)
  (h:∀ s',Inv X ao (σ.set i (⇑v)) H s'->(∃ a,Heap.SameBut a s.heap s'.heap/\(a=X.env.locals\/X.env.cells.lookup x=⇑a))->Q () s') (hf:X.fn x=true\/X.env.scope.names.lookup x=⇑.local:=by first|exact .inl rfl|exact .inr rfl|assumption):wpAny M A (storeName X.env x u) Q E s:=by
 let⟨m,hn,hl⟩:=id I.loc;have hcls:(X.env.scope.kind == .class || (X.env.scope.kind == .module&&X.env.locals != X.env.globals))=false:=by rw[I.ok.kind];rfl
 have hiσ:i<↑σ:=by rw[I.len];exact (List.getElem?_eq_some_iff.mp hi).1
 have VX:=I.VX
 have tracked:∀ {a:Addr} {h':Heap},(∃ o,s.heap.get? a=⇑o/\H a=none)->Heap.SameBut a s.heap h'->vq X.prog X.w H h':=λ{a h'} ha hs b ob e=>by
  let⟨_,_,Kw⟩:=ha;refine (I.hok b ob e).stay (λc w' hc q=>(hs.2 c ?_).trans q) (λ_ q=>q) λ_ _ q=>q;rintro rfl;rcases hc with rfl|hc
  ·rw[Kw]at e;cases e
  ·rw[Kw]at hc;cases hc
 rcases hx with hk|hk
 ·refine wpAny_storeName_local hk hn (λh' hn' hs=>?_) hcls;let⟨oL,_,_,hoL,_⟩:=id hn;refine h _ ⟨I.ok,I.os,I.bare,⟨λb o e n hb hx=>?_,λb o e n hb hx=>?_,I.zt.free,λb o e hx=>?_,I.zt.tups,I.zt.Du,I.zt.Fe⟩,⟨_,hn',λj y v' e1 e2 e3=>?_⟩,λy c e=>?_,I.free,I.tU,λp hp=>?_,tracked ⟨oL,hoL,I.free⟩ hs,by simpa using I.len⟩ ⟨_,hs,.inl rfl⟩
  ·exact (hs.2 b (jv (qS (Heap.lt_size e) I.ok.above))).trans (I.zt.keep b o e n hb hx)
  ·let⟨sl,e1⟩:=I.zt.slot b o e n hb hx;exact⟨sl,(hs.2 b (jv (qS (Heap.lt_size e) I.ok.above))).trans e1⟩
  ·let⟨o',e1⟩:=I.zt.there b o e hx;exact⟨o',(hs.2 b (jv (qS (Heap.lt_size e) I.ok.above))).trans e1⟩
  ·by_cases hj:j=i
   ·subst hj;rw[hi]at e1;cases e1;rw[List.getElem?_set_self hiσ]at e2;cases e2;exact⟨u,r,.inl ⟨hk,by simp⟩⟩
   ·rw[List.getElem?_set_ne (Ne.symm hj)]at e2;let⟨u',r',q⟩:=hl j y v' e1 e2 e3;exists u',r';rcases q with ⟨k,e⟩|⟨k,c,e,z⟩
    ·refine .inl ⟨k,?_⟩;have:y≠x:=λe=>hj (Ff hN e1 (e ▸ hi));simp[this,e]
    ·exact .inr ⟨k,c,e,z.sameBut hs (VX y c e)⟩
  ·let⟨w',z⟩:=I.cell y c e;exact⟨w',z.sameBut hs (VX y c e)⟩
  ·let⟨e,n,ne,nf,d⟩:=I.pin p hp;exact⟨(hs.2 p.1 ne).trans e,n,ne,nf,d⟩
 ·have hfn:X.fn x=true:=by
   rcases hf with z|z
   ·exact z
   ·rw[z]at hk;cases hk
  let⟨c,hc⟩:=I.ok.has x (.inl hk);let⟨w',z⟩:=I.cell x c hc;refine wpAny_storeName_cell I.ok.kind hk hc z (λh' Zm hs=>?_);let⟨oc,hoc,adJ⟩:=id z;refine h { s with heap:=h' } ⟨I.ok,I.os,I.bare,⟨λb o e n hb hx=>?_,λb o e n hb hx=>?_,I.zt.free,λb o e hx=>?_,I.zt.tups,I.zt.Du,I.zt.Fe⟩,⟨m,hn.sameBut hs (Ne.symm (VX x c hc)),λj y v' e1 e2 e3=>?_⟩,λy c' e=>?_,I.free,I.tU,λp hp=>?_,tracked ⟨oc,hoc,I.tU x c hc⟩ hs,by simpa using I.len⟩ ⟨c,hs,.inr hc⟩
  ·exact (hs.2 b (jv (qS (Heap.lt_size e) (I.ok.Zj x c hfn hc)))).trans (I.zt.keep b o e n hb hx)
  ·let⟨sl,e1⟩:=I.zt.slot b o e n hb hx;exact⟨sl,(hs.2 b (jv (qS (Heap.lt_size e) (I.ok.Zj x c hfn hc)))).trans e1⟩
  ·let⟨o',e1⟩:=I.zt.there b o e hx;exact⟨o',(hs.2 b (jv (qS (Heap.lt_size e) (I.ok.Zj x c hfn hc)))).trans e1⟩
  ·by_cases hj:j=i
   ·subst hj;rw[hi]at e1;cases e1;rw[List.getElem?_set_self hiσ]at e2;cases e2;exact⟨u,r,.inr ⟨.inl hk,c,hc,Zm⟩⟩
   ·rw[List.getElem?_set_ne (Ne.symm hj)]at e2;let⟨u',r',q⟩:=hl j y v' e1 e2 e3;exists u',r';rcases q with q|⟨k,c',e,z'⟩
    ·exact .inl q
    ·refine .inr ⟨k,c',e,z'.sameBut hs ?_⟩;rintro rfl;exact hj (Ff hN e1 (I.ok.inj _ _ _ e hc ▸ hi))
  ·by_cases hcc:c'=c
   ·subst hcc;exact⟨_,Zm⟩
   ·let⟨w2,z2⟩:=I.cell y c' e;exact⟨w2,z2.sameBut hs hcc⟩
  ·let⟨e,n,ne,nf,d⟩:=I.pin p hp;refine⟨(hs.2 p.1 ?_).trans e,n,ne,nf,d⟩;intro q;rw[q,hoc]at e;have q':oc=p.2:=oB e;exact d w' (by rw[← q'];exact adJ)
theorem zG{M:Model}{A:Around}{E:Value->Shared->Prop}{i:Nat}{x:Str}{v:V}{u:Value}{Q:Unit->Shared->Prop}(I:Inv X ao σ H s)(hN:X.N.Nodup)(hi:X.N[i]?=⇑x)(hx:Loc X.env.scope x)(r:RelV v u)
  (h:∀ s',Inv X ao (σ.set i (⇑v)) H s'->Q () s') (hf:X.fn x=true\/X.env.scope.names.lookup x=⇑.local:=by first|exact .inl rfl|exact .inr rfl|assumption):wpAny M A (storeName X.env x u) Q E s :=
 Ck I hN hi hx r (λs' I' _=>h s' I') hf
theorem Inv.Zn{s':Shared}{ch:List Addr}(I:Inv X ao σ H s)(ho:s'.os=s.os)(u:Un (N1 X.stack) ch H H' s.heap s'.heap)(hok:vq X.prog X.w H' s'.heap)(hg:AllBare s'.gens)
  (Rf:∀ b∈ch,(b∈X.ex\/X.s₀.heap.objs.size<=b)/\b≠X.env.locals/\(∀ x c,X.env.cells.lookup x=⇑c->c≠b)/\∀ p∈X.pn++ao,p.1≠b):Inv X ao σ H' s':=by
 let⟨h',g',d',t',o'⟩:=s';have e:o'=s.os:=ho;subst e;exact I.call (g':=g') (t':=t') (d':=d') u hok hg Rf
end
abbrev XK:=Value->Option Addr->Hp->Prop
abbrev St:=List (Option V)
abbrev VK:=V->Hp->Prop
abbrev TE:=St->Hp->VK->Prop
abbrev TT:=St->Hp->(Bool->Hp->Prop)->Prop
abbrev TA:=St->Hp->(List V->Hp->Prop)->Prop
structure Ends where
 nx:St->Hp->Prop
 rt:VK
 bk:St->Hp->Prop:=λ_ _=>False
 ct:St->Hp->Prop:=λ_ _=>False
abbrev TS:=Ends->St->Hp->Prop
inductive EP(X:Cx)(ao:List (Addr × Obj))(σ:St)(Q:VK)(u:Value)(s':Shared):Prop
 | mk (v:V) (H':Hp) (_:Inv X ao σ H' s') (_:RelV v u) (_:Q v H')
def TP(X:Cx)(ao:List (Addr × Obj))(σ:St)(Q:Bool->Hp->Prop)(b:Bool)(s':Shared):Prop:=∃ H',Inv X ao σ H' s'/\Q b H'
inductive AP(X:Cx)(ao:List (Addr × Obj))(σ:St)(Q:List V->Hp->Prop)(us:List Value)(s':Shared):Prop
 | mk (vs:List V) (H':Hp) (_:Inv X ao σ H' s') (_:b8 vs us) (_:Q vs H')
def SP(X:Cx)(ao:List (Addr × Obj))(D:Ends)(f:Flow)(s':Shared):Prop :=
 match f with
 | .next=>∃ σ' H',Inv X ao σ' H' s'/\D.nx σ' H'
 | .brk=>∃ σ' H',Inv X ao σ' H' s'/\D.bk σ' H'
 | .cont=>∃ σ' H',Inv X ao σ' H' s'/\D.ct σ' H'
 | .ret u=>∃ v σ' H',Inv X ao σ' H' s'/\RelV v u/\D.rt v H'
def PE(X:Cx)(e:Expr)(t:TE):Prop :=
 ∀ (ao:List (Addr × Obj)) (s:Shared) (σ:St) (H:Hp) (Q:VK),Inv X ao σ H s->t σ H Q->wpAny (model X.prog X.w) X.A (eval e X.env) (EP X ao σ Q) X.xe s
def PT(X:Cx)(e:Expr)(t:TT):Prop :=
 ∀ (ao:List (Addr × Obj)) (s:Shared) (σ:St) (H:Hp) (Q:Bool->Hp->Prop),Inv X ao σ H s->t σ H Q->wpAny (model X.prog X.w) X.A (isTrue e X.env (eval e X.env)) (TP X ao σ Q) X.xe s
def PW(X:Cx)(e:Expr)(t:TT):Prop :=
 ∀ (zH:Sem Value) (ao:List (Addr × Obj)) (s:Shared) (σ:St) (H:Hp) (Q:Bool->Hp->Prop),Inv X ao σ H s->t σ H Q->wpAny (model X.prog X.w) X.A (isTrue e X.env zH) (TP X ao σ Q) X.xe s
theorem PW.pt{X:Cx}{e:Expr}{t:TT}(h:PW X e t):PT X e t:=h _
def PA(X:Cx)(es:List Expr)(t:TA):Prop :=
 ∀ (pos:Pos) (ao:List (Addr × Obj)) (s:Shared) (σ:St) (H:Hp) (Q:List V->Hp->Prop),Inv X ao σ H s->t σ H Q->wpAny (model X.prog X.w) X.A (spliced (backTo pos (starEach es X.env))) (AP X ao σ Q) X.xe s
def PS(X:Cx)(st:Stmt)(t:TS):Prop :=
 ∀ (ao:List (Addr × Obj)) (s:Shared) (σ:St) (H:Hp) (D:Ends),Inv X ao σ H s->t D σ H->wpAny (model X.prog X.w) X.A (exec st X.env) (SP X ao D) X.xe s
def Kx(X:Cx)(st:List Stmt)(t:TS):Prop :=
 ∀ (ao:List (Addr × Obj)) (s:Shared) (σ:St) (H:Hp) (D:Ends),Inv X ao σ H s->t D σ H->wpAny (model X.prog X.w) X.A (execs st X.env) (SP X ao D) X.xe s
theorem c9{α:Type}{t:Sem α}{Q Q':α->Shared->Prop}{M:Model}{A:Around}{E:Value->Shared->Prop}{s:Shared}(h:wpAny M A t Q E s)(hQ:∀ a s,Q a s->Q' a s):wpAny M A t Q' E s:=wpAny_mono h hQ λ_ _ x=>x
end L2
namespace L2
open Spec Rows
section
variable {X:Cx}
inductive RG(i:Nat)(σ:St)(H:Hp)(Q:VK):Prop
 | mk (v:V) (_:σ[i]?=⇑(⇑v)) (_:Q v H)
inductive isB(x:V)(H:Hp)(Q:Bool->Hp->Prop):Prop
 | mk (c:Bool) (_:x=.bl c) (_:Q c H)
inductive isI(x:V)(H:Hp)(Q:Option Int->Hp->Prop):Prop
 | mk (i:Int) (_:x=.int i) (_:Q (⇑i) H)
def tC(v:V):TE:=λ_ H Q=>Q v H
def VY{i:Nat}{x:Str}(hN:X.N[i]?=⇑x)(hv:Vis X.env.scope x)(hd:(x == ("__debug__":Str))=false:=by decide)(N4:(x == ("__classdict__":Str))=false:=by decide):PE X (.Name x pos) (RG i):=by
 intro ao s σ H Q I h;let⟨v,e,h⟩:=h;let⟨m,hn,hl⟩:=I.loc;let⟨u,r,l⟩:=hl i x v hN e hv;have iS:EP X ao σ Q u s:=⟨v,H,I,r,h⟩;rcases l with ⟨hk,hm⟩|⟨hk,c,hc,hcell⟩
 ·exact wpAny_Name (wpAny_loadName_local I.ok.kind hk hn hm iS) hd
 ·rcases hk with hk|hk
  ·exact wpAny_Name (wpAny_loadName_cell I.ok.kind hk hc hcell iS) hd
  ·exact wpAny_Name (wpAny_loadName_free I.ok.kind hk hc hcell iS N4) hd
theorem ay{i j pos}:PE X (.Constant (.int i) j pos) (tC (.int i)):=λ_ _ _ H _ I h=>wpAny_Constant_int ⟨.int i,H,I.tok _,⟨Y⟩,h⟩
theorem ng{b j pos}:PE X (.Constant (.bool b) j pos) (tC (.bl b)):=λ_ _ _ H _ I h=>Constant_bool ⟨.bl b,H,I,rfl,h⟩
theorem VZ{j pos}:PE X (.Constant .none j pos) (tC .fT):=λ_ _ _ H _ I h=>Constant_none ⟨.fT,H,I,rfl,h⟩
theorem bI{x j pos}:PE X (.Constant (.str x) j pos) (tC (.str x)):=λ_ _ _ H _ I h=>Calls.Constant_str ⟨.str x,H,I.tok _,⟨Y⟩,h⟩
def Gl(X:Cx)(x:Str):Prop:=X.env.kindOf x=some .globalImplicit
theorem zo{E:Value->Shared->Prop}{s:Shared}{σ:St}{H:Hp}{x:Str}{u:Value}{Q:Value->Shared->Prop}(I:Inv X ao σ H s)(hg:Gl X x)(hm:X.mg x=⇑u)(h:Q u s)
  (hd:(x == ("__debug__":Str))=false:=by decide):wpAny (model X.prog X.w) X.A (eval (.Name x pos) X.env) Q E s :=
 Calls.Name_function_global I.ok.kind hg (Calls.loadGlobal_global (by rw[I.ok.glob];exact I.mod.glob.keeps I.bk) hm h) hd
theorem wU{E:Value->Shared->Prop}{s:Shared}{σ:St}{H:Hp}{x:Str}{u:Value}{Q:Value->Shared->Prop}(I:Inv X ao σ H s)(hg:Gl X x)(hm:X.mg x=none)(hv:bootBuiltins x=⇑u)(h:Q u s)
  (hn:x≠"__name__":=by decide) (hd:(x == ("__debug__":Str))=false:=by decide):wpAny (model X.prog X.w) X.A (eval (.Name x pos) X.env) Q E s:=by
 let⟨mb,h1,h2⟩:=I.mod.blt;exact Calls.Name_function_global I.ok.kind hg (Calls.loadGlobal_builtin (by rw[I.ok.glob];exact I.mod.glob.keeps I.bk) hm (by rw[I.ok.blt];exact h1.keeps I.bk) ((h2 x hn).trans hv) h) hd
def Dw{x:Str}{v:V}{u:Value}(hg:Gl X x)(hm:X.mg x=⇑u)(r:RelV v u)(hd:(x == ("__debug__":Str))=false:=by decide):PE X (.Name x pos) (tC v) :=
 λ_ _ _ H _ I h=>zo I hg hm ⟨v,H,I,r,h⟩ hd
theorem RH{x:Str}{v:V}{u:Value}(hg:Gl X x)(hm:X.mg x=none)(hv:bootBuiltins x=⇑u)(r:RelV v u)(hn:x≠"__name__":=by decide)(hd:(x == ("__debug__":Str))=false:=by decide):PE X (.Name x pos) (tC v) :=
 λ_ _ _ H _ I h=>wU I hg hm hv ⟨v,H,I,r,h⟩ hn hd
variable {a b:Expr} {ta tb:TE} {pos:Pos}
def PC(X:Cx)(op:CmpOp)(a b:Expr)(t:TE):Prop :=
 ∀ (ao:List (Addr × Obj)) (s:Shared) (σ:St) (H:Hp) (Q:VK),Inv X ao σ H s->t σ H Q->
  wpAny (model X.prog X.w) X.A (eval a X.env) (λv s₁=>wpAny (model X.prog X.w) X.A (eval b X.env) (λu s₂=>wpAny (model X.prog X.w) X.A (compareOp op v u) (EP X ao σ Q) X.xe s₂) X.xe s₁) X.xe s
def Fg(b:Expr){op:CmpOp}(h:op≠.In)(h2:op≠.NotIn):behindInMarks op b=false:=by
 have e1:(op == CmpOp.In)=false:=by cases op <;> first|rfl|exact absurd rfl h
 have e2:(op == CmpOp.NotIn)=false:=by cases op <;> first|rfl|exact absurd rfl h2
 cases b <;> simp[behindInMarks,e1,e2]
def adK(ta:TE):TE:=fun σ H Q=>ta σ H λx H1=>Q (.bl (decide (x=.fT))) H1
def Zo(ta:TE):TE:=fun σ H Q=>ta σ H λx H1=>Q (.bl (!decide (x=.fT))) H1
def RelV.Fi{x:V}{v:Value}(r:RelV x v):(v == Value.none)=decide (x=.fT):=by
 cases x with
 | fT=>cases r;rfl
 | bl _=>cases r;rfl
 | int _=>let⟨t,rfl⟩:=r;rfl
 | str _=>let⟨t,rfl⟩:=r;rfl
 | Ie _=>let⟨t,rfl⟩:=r;rfl
 | UJ _=>let⟨t,rfl⟩:=r;rfl
 | ref _=>cases r;rfl
 | ty _=>cases r;rfl
def N5{j iU}(ha:PE X a ta):PC X .Is a (.Constant .none j iU) (adK ta):=by
 intro ao s σ H Q I h;refine c9 (ha ao s σ H _ I h) λv s1 zI=>?_;let⟨x,H1,I1,r1,q1⟩:=zI;exact Constant_none (is_none_gen ⟨.bl _,H1,I1,by rw[r1.Fi];rfl,q1⟩)
def Ky{j iU}(ha:PE X a ta):PC X .IsNot a (.Constant .none j iU) (Zo ta):=by
 intro ao s σ H Q I h;refine c9 (ha ao s σ H _ I h) λv s1 Fj=>?_;let⟨x,H1,I1,r1,q1⟩:=Fj;exact Constant_none (isnot_none_gen ⟨.bl _,H1,I1,by rw[r1.Fi];rfl,q1⟩)
def tB(t:TE):TT:=fun σ H Q=>t σ H λx H1=>isB x H1 Q
def V0{op:CmpOp}{t:TE}(h:PC X op a b t)(h1:behindInMarks op b=false:=by first|exact Fg _ (by decide) (by decide)|rfl):PE X (.Compare a [op] [b] pos) t:=λao s σ H Q I hw=>wpAny_Compare1 (h ao s σ H Q I hw) h1
def zJ{op:CmpOp}{t:TE}(h:PC X op a b t)(h1:behindInMarks op b=false:=by first|exact Fg _ (by decide) (by decide)|rfl):PT X (.Compare a [op] [b] pos) (tB t):=by
 intro ao s σ H Q I hw;refine wpAny_isTrue_Compare1 (c9 (h ao s σ H _ I hw) λv s1 h1=>c9 h1 λu s2 h2=>c9 h2 λc s3 ⟨x,H1,I1,r1,q1⟩=>?_) h1;let⟨d,rfl,q⟩:=q1;cases r1;exact wpAny_truthy_bool ⟨H1,I1,q⟩
def jz{e:Expr}{t:TE}(h:PE X e t)(he:∀ zH,isTrue e X.env zH=(do let v ← zH;standAt e.pos;holding [v] (truthy v)):=by intro _;rfl):PT X e (tB t):=by
 intro ao s σ H Q I hw;refine isTrue_plain (c9 (h ao s σ H _ I hw) λv s1 ⟨x,H1,I1,r1,q1⟩=>?_) (he _);let⟨d,rfl,q⟩:=q1;cases r1;exact wpAny_truthy_bool ⟨H1,I1,q⟩
variable {tA tB':TT} {vv:List Expr}
def adL(t u:TT):TT:=fun σ H Q=>t σ H λc H1=>if c=true then u σ H1 Q else Q false H1
def tOr(t u:TT):TT:=fun σ H Q=>t σ H λc H1=>if c=true then Q true H1 else u σ H1 Q
def adM(t:TT):TT:=fun σ H Q=>t σ H λc H1=>Q (!c) H1
def j6(ha:PT X a tA):PW X (.BoolOp .And [a] pos) tA:=by
 intro wh ao s σ H Q I h;refine isTrue_and (c9 (ha ao s σ H Q I h) λc s1 e=>?_)
 cases c with
 | true=>exact isTrue_and_nil e
 | false=>exact e
def Ih(ha:PT X a tA):PW X (.BoolOp .Or [a] pos) tA:=by
 intro wh ao s σ H Q I h;refine isTrue_or (c9 (ha ao s σ H Q I h) λc s1 e=>?_)
 cases c with
 | false=>exact isTrue_or_nil e
 | true=>exact e
def kO(ha:PT X a tA)(hb:PW X (.BoolOp .And (b::vv) pos) tB'):PW X (.BoolOp .And (a::b::vv) pos) (adL tA tB'):=by
 intro wh ao s σ H Q I h;refine isTrue_and (c9 (ha ao s σ H _ I h) λc s1 Dy=>?_);let⟨H1,I1,q1⟩:=Dy
 cases c with
 | true=>exact hb wh ao s1 σ H1 Q I1 q1
 | false=>exact⟨H1,I1,q1⟩
def Kz(ha:PT X a tA)(hb:PW X (.BoolOp .Or (b::vv) pos) tB'):PW X (.BoolOp .Or (a::b::vv) pos) (tOr tA tB'):=by
 intro wh ao s σ H Q I h;refine isTrue_or (c9 (ha ao s σ H _ I h) λc s1 Ij=>?_);let⟨H1,I1,q1⟩:=Ij
 cases c with
 | true=>exact⟨H1,I1,q1⟩
 | false=>exact hb wh ao s1 σ H1 Q I1 q1
def jd(ha:PT X a tA):PT X (.UnaryOp .Not a pos) (adM tA):=by
 intro ao s σ H Q I h;exact isTrue_not (ha ao s σ H (λc H1=>Q (!c) H1) I h)
def Zp(ta tb:TE):TE:=fun σ H Q=>ta σ H λx H1=>isB x H1 λc H1=>if c=true then tb σ H1 Q else Q (.bl false) H1
def Zq(ta:TE):TE:=fun σ H Q=>ta σ H λx H1=>isB x H1 λc H1=>Q (.bl (!c)) H1
theorem wV{op}{t:TE}(h:PE X a t):PE X (.BoolOp op [a] pos) t:=λao s σ H Q I hw=>BoolOp_one (h ao s σ H Q I hw)
def uw(ha:PE X a ta)(hb:PE X (.BoolOp .And (b::vv) pos) tb):PE X (.BoolOp .And (a::b::vv) pos) (Zp ta tb):=by
 intro ao s σ H Q I h;refine BoolOp_and (c9 (ha ao s σ H _ I h) λv s1 Ik=>?_);let⟨x,H1,I1,r1,q1⟩:=Ik;let⟨c,rfl,q1⟩:=q1;cases r1;refine wpAny_truthy_bool ?_
 cases c with
 | true=>exact hb ao s1 σ H1 Q I1 q1
 | false=>exact⟨.bl false,H1,I1,rfl,q1⟩
def Wa(ha:PE X a ta):PE X (.UnaryOp .Not a pos) (Zq ta):=by
 intro ao s σ H Q I h;refine UnaryOp_ (c9 (ha ao s σ H _ I h) λv s1 Il=>?_);let⟨x,H1,I1,r1,q1⟩:=Il;let⟨c,rfl,q1⟩:=q1;cases r1;exact not_of (wpAny_truthy_bool ⟨.bl (!c),H1,I1,rfl,q1⟩)
def tIf(t:TT)(ta tb:TE):TE:=fun σ H Q=>t σ H λc H1=>if c=true then ta σ H1 Q else tb σ H1 Q
def Fl{c:Expr}(hc:PT X c tA)(ha:PE X a ta)(hb:PE X b tb):PE X (.IfExp c a b pos) (tIf tA ta tb):=by
 intro ao s σ H Q I h;refine wpAny_IfExp (c9 (hc ao s σ H _ I h) λd s1 zI=>?_);let⟨H1,I1,q1⟩:=zI
 cases d with
 | true=>exact ha ao s1 σ H1 Q I1 q1
 | false=>exact hb ao s1 σ H1 Q I1 q1
end
end L2
namespace L2
open Spec Rows
def bG(K:Frag)(H:Hp)(a:Addr)(xs:List V):Prop :=
 Rd H a (.lst xs)\/
  ∃ (o:Obj) (aP:Array Value) (n:Nat),K.lookup a=⇑o/\o.cls=.type "list"/\o.dict=none/\o.data=.seq aP n/\aP.size<=sizeLine/\b8 xs aP.toList
def cW(K:Frag)(H:Hp)(a:Addr)(xs:List V):Prop :=
 Rd H a (.tup xs)\/
  ∃ (o:Obj) (aP:Array Value) (n:Nat),K.lookup a=⇑o/\o.cls=.type "tuple"/\o.data=.seq aP n/\aP.size<=sizeLine/\b8 xs aP.toList
def adN:Value->Option V
 | .none=>some .fT
 | .bool b=>⇑(.bl b)
 | .int i _=>⇑(.int i)
 | .str x _=>⇑(.str x)
 | .bytes b _=>⇑(.Ie b)
 | .float b _=>⇑(.UJ b)
 | .ref a=>⇑↥a
 | .type n=>⇑(.ty n)
 | _=>none
def RelV.abs{x:V}{u:Value}(r:RelV x u):adN u=⇑x:=by
 cases x with
 | fT=>cases r;rfl
 | bl _=>cases r;rfl
 | int _=>let⟨t,rfl⟩:=r;rfl
 | str _=>let⟨t,rfl⟩:=r;rfl
 | Ie _=>let⟨t,rfl⟩:=r;rfl
 | UJ _=>let⟨t,rfl⟩:=r;rfl
 | ref _=>cases r;rfl
 | ty _=>cases r;rfl
theorem RelV.inj{x y:V}{u:Value}(r:RelV x u)(q:RelV y u):x=y:=oB (r.abs.symm.trans q.abs)
theorem b8.inj:∀ {xs ys:List V} {us:List Value},b8 xs us->b8 ys us->xs=ys
 | _,_,_,.nil,.nil=>rfl
 | _,_,_,.cons r t,.cons r' t'=>by rw[r.inj r',b8.inj t t']
section
variable {X:Cx} {ao:List (Addr × Obj)} {σ:St} {H:Hp} {s:Shared} {a:Addr} {xs ys:List V}
theorem bG.of{K:Frag}(h:H a=⇑(.lst xs)):bG K H a xs:=.inl (.inl h)
theorem cW.of{K:Frag}(h:H a=⇑(.tup xs)):cW K H a xs:=.inl (.inl h)
def Inv.list(I:Inv X ao σ H s)(h:bG X.K H a xs):∃ aP:List Value,b8 xs aP/\PlainL s.heap a aP.toArray/\↑xs<=sizeLine:=by
 rcases h with h|⟨o,aP,n,hk,hc,hd,hs,hz,r⟩
 ·let⟨z,aP,n,r,e⟩:=h.ok I.hok;exact⟨aP,r,⟨_,n,e,K,rfl⟩,z⟩
 ·refine⟨aP.toList,r,⟨o,n,I.yq a o hk,hc,hd,by simpa using hs⟩,?_⟩;have e:=↑r;simp only[Array.length_toList]at e;lia
def Inv.tuple(I:Inv X ao σ H s)(h:cW X.K H a xs):∃ aP:List Value,b8 xs aP/\IsTup s.heap a aP.toArray/\↑xs<=sizeLine:=by
 rcases h with h|⟨o,aP,n,hk,hc,hs,hz,r⟩
 ·let⟨z,aP,r,p⟩:=h.ok I.hok;exact⟨aP,r,p,z⟩
 ·refine⟨aP.toList,r,⟨o,I.yq a o hk,hc,n,by simpa using hs⟩,?_⟩;have e:=↑r;simp only[Array.length_toList]at e;lia
def Inv.Fo(I:Inv X ao σ H s)(h:bG X.K H a xs)(h':bG X.K H a ys):xs=ys:=by
 let⟨aP,r,⟨o,n,e,_,_,d⟩,_⟩:=I.list h;let⟨its',r',⟨o',n',e',_,_,d'⟩,_⟩:=I.list h';rw[e]at e';cases e';rw[d]at d';injection d' with d1 _;have:aP=its':=by simpa using congrArg Array.toList d1
 subst this;exact r.inj r'
def Inv.Cm(I:Inv X ao σ H s)(h:cW X.K H a xs)(h':cW X.K H a ys):xs=ys:=by
 let⟨aP,r,⟨o,e,_,n,d⟩,_⟩:=I.tuple h;let⟨its',r',⟨o',e',_,n',d'⟩,_⟩:=I.tuple h';rw[e]at e';cases e';rw[d]at d';injection d' with d1 _;have:aP=its':=by simpa using congrArg Array.toList d1
 subst this;exact r.inj r'
end
abbrev Cx.Bs(X:Cx)(E:Value->Shared->Prop):Cx:={ X with xe:=E }
abbrev Cx.LP(X:Cx):Cx:=X.Bs λ_ _=>False
theorem Cx.Ok.Bs{X:Cx}(ok:X.Ok)(E:Value->Shared->Prop):(X.Bs E).Ok :=
 ⟨ok.mod,ok.kind,ok.glob,ok.blt,ok.above,ok.inj,ok.has,ok.Zj,ok.hd,ok.frames,ok.stk,ok.exf,ok.bs,ok.UL,ok.N3,ok.RD,ok.yR,ok.VW⟩
theorem Cx.Ok.qT{X:Cx}{E:Value->Shared->Prop}(ok:(X.Bs E).Ok):X.Ok :=
 ⟨ok.mod,ok.kind,ok.glob,ok.blt,ok.above,ok.inj,ok.has,ok.Zj,ok.hd,ok.frames,ok.stk,ok.exf,ok.bs,ok.UL,ok.N3,ok.RD,ok.yR,ok.VW⟩
section
variable {X:Cx} {ao:List (Addr × Obj)} {σ:St} {H:Hp} {s:Shared} {E:Value->Shared->Prop}
theorem Inv.Bs(I:Inv X ao σ H s)(E:Value->Shared->Prop):Inv (X.Bs E) ao σ H s:=⟨I.ok.Bs E,I.os,I.bare,I.zt,I.loc,I.cell,I.free,I.tU,I.pin,I.hok,I.len⟩
theorem Inv.qT(I:Inv (X.Bs E) ao σ H s):Inv X ao σ H s:=⟨I.ok.qT,I.os,I.bare,I.zt,I.loc,I.cell,I.free,I.tU,I.pin,I.hok,I.len⟩
def SP.qT{D:Ends}{f:Flow}{s':Shared}(h:SP (X.Bs E) ao D f s'):SP X ao D f s':=by
 cases f with
 | next=>let⟨σ',H',I,q⟩:=h;exact⟨σ',H',I.qT,q⟩
 | brk=>let⟨σ',H',I,q⟩:=h;exact⟨σ',H',I.qT,q⟩
 | cont=>let⟨σ',H',I,q⟩:=h;exact⟨σ',H',I.qT,q⟩
 | ret u=>let⟨v,σ',H',I,r,q⟩:=h;exact⟨v,σ',H',I.qT,r,q⟩
theorem Kx.LP{st:List Stmt}{t:TS}(h:Kx X.LP st t):Kx X st t:=λao s σ H D I hw =>
 wpAny_mono (h ao s σ H D (I.Bs _) hw) (λ_ _ q=>q.qT) λ_ _ z=>False.elim z
end
section
variable {X:Cx} {st:Stmt} {vv:List Stmt} {t u:TS} {e:Expr} {te:TE} {pos:Pos}
def Zr:TS:=λD σ H=>D.nx σ H
def adO(t u:TS):TS:=λD σ H=>t { D with nx:=u D } σ H
theorem br:Kx X [] Zr:=λ_ _ σ H _ I h=>wpAny_execs_nil ⟨σ,H,I,h⟩
def aj(h1:PS X st t)(h2:Kx X vv u):Kx X (st::vv) (adO t u):=by
 intro ao s σ H D I h;refine wpAny_execs_cons (c9 (h1 ao s σ H { D with nx:=u D } I h) λf s1 q=>?_)
 cases f with
 | next =>
  let⟨σ',H',I',q⟩:=q;exact h2 ao s1 σ' H' D I' q
 | ret v=>exact q
 | brk=>exact q
 | cont=>exact q
def au(h1:PS X st t):Kx X [st] t:=by
 intro ao s σ H D I h;refine wpAny_execs_cons (c9 (h1 ao s σ H D I h) λf s1 q=>?_)
 cases f with
 | next=>exact wpAny_execs_nil q
 | ret v=>exact q
 | brk=>exact q
 | cont=>exact q
def Zs:TS:=λD σ H=>D.ct σ H
theorem yr:PS X (.Continue pos) Zs:=λ_ _ σ H _ I h=>wpAny_Continue ⟨σ,H,I,h⟩
def Inv.quiet{σ:St}{H:Hp}{s:Shared}(I:Inv X ao σ H s):interactive X.env=false:=by simp[interactive,I.ok.kind]
def Zt(te:TE):TS:=λD σ H=>te σ H λ_ H1=>D.nx σ H1
def aT(he:PE X e te)(hs:swapsWith e none pos.line X.env=pure false:=by rfl):PS X (.Expr e pos) (Zt te):=by
 intro ao s σ H D I h;exact wpAny_Expr_any (c9 (he ao s σ H _ I h) λv s1 ⟨x,H1,I1,r1,q1⟩=>⟨σ,H1,I1,q1⟩) I.quiet hs
def adP(te:TE):TS:=λD σ H=>te σ H D.rt
def aJ(he:PE X e te):PS X (.Return (⇑e) pos) (adP te):=by
 intro ao s σ H D I h;exact wpAny_Return_some (c9 (he ao s σ H _ I h) λv s1 ⟨x,H1,I1,r1,q1⟩=>⟨x,σ,H1,I1,r1,q1⟩)
def adQ(c:TT)(t u:TS):TS:=λD σ H=>c σ H λb H1=>if b=true then t D σ H1 else u D σ H1
def bO{c:Expr}{a b:List Stmt}{tc:TT}(hc:PT X c tc)(ha:Kx X a t)(hb:Kx X b u):PS X (.If c a b pos) (adQ tc t u):=by
 intro ao s σ H D I h;refine wpAny_If (c9 (hc ao s σ H _ I h) λd s1 Fj=>?_);let⟨H1,I1,q1⟩:=Fj
 cases d with
 | true=>exact ha ao s1 σ H1 D I1 q1
 | false=>exact hb ao s1 σ H1 D I1 q1
def Wb:TS:=λ_ _ _=>False
theorem iV:PS X st Wb:=λ_ _ _ _ _ _ h=>h.elim
end
abbrev TG:=V->St->Hp->(St->Hp->Prop)->Prop
abbrev Wc:=List V->St->Hp->(St->Hp->Prop)->Prop
def PG(X:Cx)(wW:Expr)(t:TG):Prop :=
 ∀ (ao:List (Addr × Obj)) (s:Shared) (σ:St) (H:Hp) (v:V) (u:Value) (Q:St->Hp->Prop),Inv X ao σ H s->RelV v u->t v σ H Q->
  wpAny (model X.prog X.w) X.A (assign wW X.env u) (λ_ s'=>∃ σ' H',Inv X ao σ' H' s'/\Q σ' H') X.xe s
def Zu(X:Cx)(ts:List Expr)(t:Wc):Prop :=
 ∀ (ao:List (Addr × Obj)) (s:Shared) (σ:St) (H:Hp) (vs:List V) (us:List Value) (Q:St->Hp->Prop),Inv X ao σ H s->b8 vs us->t vs σ H Q->
  wpAny (model X.prog X.w) X.A (assignInOrder ((assignEach ts X.env).map (·.2)) us) (λ_ s'=>∃ σ' H',Inv X ao σ' H' s'/\Q σ' H') X.xe s
abbrev Wd:=V->V->V->Hp->(Hp->Prop)->Prop
def Zv(X:Cx)(t:Wd):Prop :=
 ∀ (ao:List (Addr × Obj)) (s:Shared) (σ:St) (H:Hp) (o i v:V) (ov iv u:Value) (Q:Hp->Prop),Inv X ao σ H s->RelV o ov->RelV i iv->RelV v u->t o i v H Q->
  wpAny (model X.prog X.w) X.A (setItem ov iv u) (λ_ s'=>∃ H',Inv X ao σ H' s'/\Q H') X.xe s
abbrev TIp:=V->V->Hp->VK->Prop
def PIp(X:Cx)(op:Operator)(t:TIp):Prop :=
 ∀ (ao:List (Addr × Obj)) (s:Shared) (σ:St) (H:Hp) (x y:V) (v u:Value) (Q:VK),Inv X ao σ H s->RelV x v->RelV y u->t x y H Q->
  wpAny (model X.prog X.w) X.A (inplaceOp op v u) (EP X ao σ Q) X.xe s
section
variable {X:Cx} {pos:Pos}
def qU(i:Nat):TG:=λv σ H Q=>Q (σ.set i (⇑v)) H
def RI{i:Nat}{x:Str}(hN:X.N.Nodup)(hi:X.N[i]?=⇑x)(hx:Loc X.env.scope x)(hf:X.fn x=true\/X.env.scope.names.lookup x=⇑.local:=by first|exact .inl rfl|exact .inr rfl|assumption):PG X (.Name x pos) (qU i):=by
 intro ao s σ H v u Q I r h;exact wpAny_assign_Name (zG I hN hi hx r (λs' I'=>⟨_,H,I',h⟩) hf)
def adS:Wc:=λvs σ H Q=>vs=[]/\Q σ H
inductive Zw(t:TG)(u:Wc)(vs:List V)(σ:St)(H:Hp)(Q:St->Hp->Prop):Prop
 | mk (v:V) (r:List V) (_:vs=v::r) (_:t v σ H fun σ' H'=>u r σ' H' Q)
def fX:Zu X [] adS:=by
 intro ao s σ H vs us Q I r h;let⟨e,h⟩:=h;subst e;cases r;exact assignInOrder_nil ⟨σ,H,I,h⟩
theorem bP{e:Expr}{es:List Expr}{t:TG}{u:Wc}(h1:PG X e t)(h2:Zu X es u)
  (hs:(assignEach (e::es) X.env).map (·.2)=assign e X.env::(assignEach es X.env).map (·.2):=by rfl):Zu X (e::es) (Zw t u):=by
 intro ao s σ H vs us Q I r h;let⟨v,vr,e1,h⟩:=h;subst e1
 cases r with
 | cons r rr =>
  rw[hs];refine assignInOrder_cons (c9 (h1 ao s σ H _ _ _ I r h) λ_ s1 Dy=>?_);let⟨σ1,H1,I1,q1⟩:=Dy;exact h2 ao s1 σ1 H1 _ _ Q I1 rr q1
inductive Wf(K:Frag)(n:Nat)(t:Wc)(v:V)(σ:St)(H:Hp)(Q:St->Hp->Prop):Prop
 | mk (a:Addr) (xs:List V) (_:v=↥a) (_:cW K H a xs) (_:↑xs=n) (_:t xs σ H Q):Wf K n t v σ H Q
theorem kQ{es:List Expr}{k:Nat}{t:Wc}{n:Nat}(hc:X.calm=true)(h:Zu X es t)
  (hn:↑(assignEach es X.env)=n:=by rfl) (Dz:(assignEach es X.env).findIdx? (·.1)=none:=by rfl):PG X (.Tuple es k pos) (Wf X.K n t):=by
 intro ao s σ H v u Q I r hw;let⟨a,xs,e1,hq,hl,hw⟩:=hw;subst e1;cases r;let⟨aP,rv,ht,hz⟩:=I.tuple hq;refine assign_Tuple_tuple (I.ok.hd hc) ht (by simp[hn,← hl,rv.length]) Dz λh' hx=>?_;have I1:Inv X ao σ H { s with heap:=h' }:=I.kept (t':=s.toks) λb o e=>hx b o (jv (Heap.lt_size e)) e;exact h ao _ σ H xs _ Q I1 (by simpa using rv) hw
def adT(to ti:TE)(t:Wd):TG:=λv σ H Q=>to σ H λo H1=>ti σ H1 λi H2=>t o i v H2 λH3=>Q σ H3
theorem pF{i:Expr}{to ti:TE}{t:Wd}(ho:PE X o to)(hi:PE X i ti)(hs:Zv X t)
  (ha:∀ v,assign (.Subscript o i pos) X.env v=(do
   let ov ← holding [v] (eval o X.env)
   let iv ← holding [v,ov] (eval i X.env)
   standAt pos
   holding [v,ov,iv] (setItem ov iv v)
   release [v,ov,iv] []):=by intro _;rfl):PG X (.Subscript o i pos) (adT to ti t):=by
 intro ao s σ H v u Q I r h;rw[ha];refine wpAny_bind (wpAny_holding (c9 (ho ao s σ H _ I h) λov s1 Ij=>?_));let⟨x,H1,I1,r1,q1⟩:=Ij;refine wpAny_bind (wpAny_holding (c9 (hi ao s1 σ H1 _ I1 q1) λiv s2 Ik=>?_));let⟨y,H2,I2,r2,q2⟩:=Ik;refine wpAny_bind (wpAny_standAt (wpAny_bind (wpAny_holding (c9 (hs ao s2 σ H2 x y v ov iv u _ I2 r1 r2 r q2) λ_ s3 Im=>?_))));let⟨H3,I3,q3⟩:=Im;exact wpAny_release ⟨σ,H3,I3,q3⟩
def N6(te:TE)(g:TG):TS:=λD σ H=>te σ H λx H1=>g x σ H1 D.nx
theorem mj{e:Expr}{te:TE}{g:TG}(he:PE X e te)(hg:PG X tg g)(hs:swapsWithSole [tg] e pos.line X.env=pure false:=by rfl)(hw:swappedStores [tg] e X.env=pure none:=by rfl)
  (h1:(assignEach [tg] X.env).map (·.2)=[assign tg X.env]:=by rfl):PS X (.Assign [tg] e pos) (N6 te g):=by
 intro ao s σ H D I h;refine wpAny_Assign_stores (c9 (he ao s σ H _ I h) λv s1 ⟨x,H1,I1,r1,q1⟩=>?_) hs hw;rw[h1];exact c9 (hg ao s1 σ H1 x v _ I1 r1 q1) λ_ s2 q=>q
theorem Wg{i:Nat}{x:Str}{e:Expr}{te:TE}(hN:X.N.Nodup)(hi:X.N[i]?=⇑x)(hx:Loc X.env.scope x)(he:PE X e te)(hs:swapsWith e (⇑(.Name x iU)) pos.line X.env=pure false:=by rfl)(hf:X.fn x=true\/X.env.scope.names.lookup x=⇑.local:=by first|exact .inl rfl|exact .inr rfl|assumption) :
  PS X (.Assign [.Name x iU] e pos) (N6 te (qU i)):=by
 intro ao s σ H D I h;refine wpAny_Assign_Name (c9 (he ao s σ H _ I h) λv s1 ⟨y,H1,I1,r1,q1⟩=>?_) hs;exact zG I1 hN hi hx r1 (λs2 I2=>⟨_,H1,I2,q1⟩) hf
def adU(i:Nat)(te:TE)(ti:TIp):TS:=λD σ H=>∃ x,σ[i]?=⇑(⇑x)/\te σ H λy H1=>ti x y H1 λz H2=>D.nx (σ.set i (⇑z)) H2
def ux{i:Nat}{x:Str}{e:Expr}{te:TE}{op:Operator}{ti:TIp}{iU:Pos}(hN:X.N.Nodup)(hi:X.N[i]?=⇑x)(hx:Loc X.env.scope x)(he:PE X e te)(ho:PIp X op ti)(hf:X.fn x=true\/X.env.scope.names.lookup x=⇑.local:=by first|exact .inl rfl|exact .inr rfl|assumption) :
  PS X (.AugAssign (.Name x iU) op e pos) (adU i te ti):=by
 intro ao s σ H D I h;let⟨v,e1,h⟩:=h;let⟨m,hn,hl⟩:=I.loc;have vis:Vis X.env.scope x:=by rcases hx with k|k;exact .inl k;exact .inr (.inl k)
 let⟨u,r,l⟩:=hl i x v hi e1 vis;refine wpAny_AugAssign_Name ?_
 have go:wpAny (model X.prog X.w) X.A (eval e X.env) (λw s₂=>wpAny (model X.prog X.w) X.A (inplaceOp op u w) (λr s₃=>wpAny (model X.prog X.w) X.A (storeName X.env x r) (λ_=>SP X ao D .next) X.xe s₃) X.xe s₂) X.xe s:=by
  refine c9 (he ao s σ H _ I h) λw s1 zI=>?_;let⟨y,H1,I1,r1,q1⟩:=zI;refine c9 (ho ao s1 σ H1 v y u w _ I1 r r1 q1) λz s2 Fj=>?_;let⟨zv,H2,I2,r2,q2⟩:=Fj;exact zG I2 hN hi hx r2 (λs3 I3=>⟨_,H2,I3,q2⟩) hf
 rcases l with ⟨hk,hm⟩|⟨hk,c,hc,hcell⟩
 ·exact wpAny_loadName_local I.ok.kind hk hn hm go
 ·rcases hk with hk|hk
  ·exact wpAny_loadName_cell I.ok.kind hk hc hcell go
  ·rcases hx with k|k
   ·have:X.env.scope.names.lookup x=⇑.free:=hk;rw[k]at this;cases this
   ·have:X.env.scope.names.lookup x=⇑.free:=hk;rw[k]at this;cases this
def ipI(f:Int->Int->Int):TIp:=λx y H Q=>∃ i j,x=.int i/\y=.int j/\Q (.int (f i j)) H
def Io:PIp X .Add (ipI λi j=>i+j):=by
 intro ao s σ H x y v u Q I r1 r2 h;let⟨i,j,e1,e2,q⟩:=h;subst e1;subst e2;let⟨t,rfl⟩:=r1;let⟨t',rfl⟩:=r2;exact iadd_int ⟨.int _,H,I.tok _,⟨Y⟩,q⟩
end
section
variable {X:Cx} {pos:Pos}
def Wh(c:TT)(tb:TS):TS:=λD σ H=>∃ W:Nat->St->Hp->Prop,(∃ m,W m σ H)/\∀ m σ H,W m σ H->
 c σ H λb H1=>if b=true then ∃ N:St->Hp->Prop,(∀ σ' H',N σ' H'->∃ m',m'<m/\W m' σ' H')/\tb { D with nx:=N,ct:=N,bk:=D.nx } σ H1 else D.nx σ H1
def qV{c:Expr}{tc:TT}{tb:TS}(hp:PassesOwn (model X.prog X.w) X.A X.env X.xe)(hc:PT X c tc)(hb:Kx X body tb):PS X (.While c body [] pos) (Wh tc tb):=by
 intro ao s σ H D I h;let⟨W,⟨m0,w0⟩,pG⟩:=h;refine wpAny_While (codeAny_whileLoop (λn s'=>∃ σ' H',Inv X ao σ' H' s'/\W n σ' H') ?_ m0 ⟨σ,H,I,w0⟩);rintro n s1 ⟨σ1,H1,I1,w1⟩;refine wpAny_passesOwn hp (c9 (hc ao s1 σ1 H1 _ I1 (pG n σ1 H1 w1)) λb s2 Il=>?_);let⟨H2,I2,q2⟩:=Il
 cases b with
 | true =>
  let⟨N,hN,q2⟩:=q2;rw[if_pos rfl];refine wpAny_passesOwn hp (c9 (hb ao s2 σ1 H2 _ I2 q2) λf s3 q3=>?_)
  cases f with
  | next =>
   let⟨σ3,H3,I3,n3⟩:=q3;let⟨m',hm,w3⟩:=hN σ3 H3 n3;exact⟨m',hm,σ3,H3,I3,w3⟩
  | cont =>
   let⟨σ3,H3,I3,n3⟩:=q3;let⟨m',hm,w3⟩:=hN σ3 H3 n3;exact⟨m',hm,σ3,H3,I3,w3⟩
  | brk=>exact q3
  | ret v=>exact q3
 | false =>
  rw[if_neg gF];exact wpAny_execs_nil ⟨σ1,H2,I2,q2⟩
end
structure It where
 go:Nat->Hp->Prop
 N7:Nat->Hp->V->Hp->Prop
 stop:Nat->Hp->Prop
def pH(X:Cx)(ao:List (Addr × Obj))(H:Hp)(b:Addr):Prop :=
 H b=none/\b≠X.env.locals/\b∉X.fs/\(b∈X.ex\/X.s₀.heap.objs.size<=b)/\(∀ x c,X.env.cells.lookup x=⇑c->c≠b)/\∀ p∈X.pn++ao,p.1≠b
def Inv.LQ{X:Cx}{σ:St}{H H':Hp}{s:Shared}{b:Addr}(I:Inv X ao σ H s)(hb:s.heap.objs.size<=b)(hn:H' b=none):pH X ao H' b:=by
 refine⟨hn,Nat.ne_of_gt (qS I.lt hb),I.adH hb,.inr (gX I.sz hb),λx c e z=>?_,λp hp z=>?_⟩
 ·let⟨v,q⟩:=I.cell x c e;exact absurd (qS q.lt (by rw[z];exact hb)) (Nat.lt_irrefl _)
 ·exact absurd (qS (Heap.lt_size (I.pin p hp).1) (by rw[z];exact hb)) (Nat.lt_irrefl _)
structure Ip(P:Program)(w:World)(K:Frag)(tg:Expr)(J:It)(fp:List Addr)(it:Addr)(tn:Nat->Heap->Prop):Prop where
 mem:it∈fp
 obj:∀ i h,tn i h->∀ b∈fp,∃ o,h.get? b=⇑o/\∀ v,o.data≠.cell v
 keep:∀ i h h',tn i h->(∀ b∈fp,∀ o,h.get? b=⇑o->h'.get? b=⇑o)->tn i h'
 item:∀ (X:Cx),X.prog=P->X.w=w->X.K=K->X.calm=true->∀ (i:Nat) (ao:List (Addr × Obj)) (s:Shared) (σ:St) (H:Hp) (E:Value->Shared->Prop),Inv X ao σ H s->(∀ b∈fp,pH X ao H b)->tn i s.heap->J.go i H->
  wpAny (model P w) X.A (pyNext ↥it) (λr s1=>∃ u,r=⇑u/\
   wpAny (model P w) X.A (letOwnedTupleGo tg ↥it u) (λ_ s2=>∃ x H',Inv X ao σ H' s2/\RelV x u/\J.N7 i H x H'/\tn (i+1) s2.heap/\∀ b∈fp,H' b=none) E s1) E s
 done:∀ (X:Cx),X.prog=P->X.w=w->X.K=K->X.calm=true->∀ (i:Nat) (ao:List (Addr × Obj)) (s:Shared) (σ:St) (H:Hp) (E:Value->Shared->Prop),Inv X ao σ H s->(∀ b∈fp,pH X ao H b)->tn i s.heap->J.stop i H->
  wpAny (model P w) X.A (pyNext ↥it) (λr s1=>r=none/\Inv X ao σ H s1) E s
 self:∀ (A:Around) (i:Nat) (s:Shared) (Q:Value->Shared->Prop) (E:Value->Shared->Prop),tn i s.heap->Q ↥it s->wpAny (model P w) A (pyIter ↥it) Q E s
abbrev TI:=St->Hp->(It->Hp->Prop)->Prop
def PIE(X:Cx)(ao:List (Addr × Obj))(σ:St)(tg:Expr)(R:It->Hp->Prop)(Zx:Value)(s2:Shared):Prop :=
 ∃ (it:Addr) (fp:List Addr) (tn:Nat->Heap->Prop) (J:It) (H':Hp),Zx=↥it/\Inv X ao σ H' s2/\Ip X.prog X.w X.K tg J fp it tn/\tn 0 s2.heap/\(∀ b∈fp,pH X ao H' b)/\R J H'
def PI(X:Cx)(tg iter:Expr)(wi:TI):Prop :=
 ∀ (ao:List (Addr × Obj)) (s:Shared) (σ:St) (H:Hp) (R:It->Hp->Prop),Inv X ao σ H s->wi σ H R->
  wpAny (model X.prog X.w) X.A (eval iter X.env) (λv s1=>wpAny (model X.prog X.w) X.A (pyIter v) (PIE X ao σ tg R) X.xe s1) X.xe s
theorem Fp{M:Model}{A:Around}{E:Value->Shared->Prop}{s:Shared}{it:Addr}{u:Value}{o:Obj}{n:String}{vs:Array Value}{Q:Unit->Shared->Prop}(ho:s.heap.get? it=⇑o)(hc:o.cls=.type n)(hd:o.data=.fields vs)
  (hn:["enumerate","zip","dict_itemiterator","dict_reverseitemiterator","odict_iterator","itertools.zip_longest","itertools.pairwise"].contains n=false) (hQ:Q () s):wpAny M A (letOwnedTupleGo tg ↥it u) Q E s:=by
 unfold letOwnedTupleGo
 cases tg <;> first
  | exact wpAny_pure hQ
  | (cases u <;> first
    | exact wpAny_pure hQ
    | (refine wpAny_bind (wpAny_load ho ?_);rw[hc,hd];show wpAny M A (if (["enumerate","zip","dict_itemiterator","dict_reverseitemiterator","odict_iterator","itertools.zip_longest","itertools.pairwise"].contains n&&vs[0]? == some (rawInt _))=true then _ else _) Q E s;rw[if_neg (by intro h;rw[hn,Bool.false_and]at h;cases h)];exact wpAny_pure hQ))
def Rg(K:Frag)(a:Addr):It :=
 ⟨λi H=>∃ xs x,bG K H a xs/\xs[i]?=⇑x,λi H x H'=>H'=H/\∀ xs,bG K H a xs->xs[i]?=⇑x,λi H=>∃ xs,bG K H a xs/\↑xs<=i⟩
def Zy(K:Frag)(a:Addr):It :=
 ⟨λi H=>∃ xs x,cW K H a xs/\xs[i]?=⇑x,λi H x H'=>H'=H/\∀ xs,cW K H a xs->xs[i]?=⇑x,λi H=>∃ xs,cW K H a xs/\↑xs<=i⟩
def LR(lo:Int)(n:Nat):It:=⟨λi _=>i<n,λi H x H'=>H'=H/\x=.int (lo+i),λi _=>n<=i⟩
theorem LS{P:Program}{w:World}{K:Frag}(a it:Addr):Ip P w K tg (Rg K a) [it] it (λi h=>h.IsListIter it a i) where
 mem:=by simp
 obj:=λi h st b hb=>by
  have e:b=it:=by simpa using hb
  subst e;let⟨o,e,c,d⟩:=st;exact⟨o,e,λv z=>by rw[d]at z;cases z⟩
 keep:=λi h h' st k=>st.at λo e=>k it (by simp) o e
 item:=by
  intro X hP hw hK hc i ao s σ H E I hf st hg;subst hP hw hK;let⟨xs,x,hq,hx⟩:=hg;let⟨aP,rv,p,hz⟩:=I.list hq;let⟨u,hu,ru⟩:=rv.get hx;let⟨f0,f1,f2,f3,f4,f5⟩:=hf it (by simp);refine wpAny_pyNext_list_item st p.isList (x:=u) (by simpa using hu) λh' DA sb=>?_;have I1:Inv X ao σ H { s with heap:=h' }:=I.turned (t':=s.toks) (λb o hb e=>(sb.2 b hb).trans e) f0 f1 f3 f4 f5;let⟨o,e,c,d⟩:=id DA;exact⟨u,rfl,Fp (s:={ s with heap:=h' }) e c d (by decide) ⟨x,H,I1,ru,⟨rfl,λys hy=>by rw[I.Fo hy hq];exact hx⟩,DA,λb hb=>(hf b hb).1⟩⟩
 done:=by
  intro X hP hw hK hc i ao s σ H E I hf st hg;subst hP hw hK;let⟨xs,hq,hx⟩:=hg;let⟨aP,rv,p,hz⟩:=I.list hq;let⟨f0,f1,f2,f3,f4,f5⟩:=hf it (by simp);have hl:=↑rv;exact wpAny_pyNext_list_end (I.ok.hd hc) st p.isList (by simp;lia) λh' eb=>⟨rfl,I.turned (t':=s.toks) (λb o hb e=>eb b o hb e) f0 f1 f3 f4 f5⟩
 self:=λ_ _ _ _ _ st h=>wpAny_pyIter_listiter st h
theorem Iq{P:Program}{w:World}{K:Frag}(a it:Addr):Ip P w K tg (Zy K a) [it] it (λi h=>h.IsTupleIter it a i) where
 mem:=by simp
 obj:=λi h st b hb=>by
  have e:b=it:=by simpa using hb
  subst e;let⟨o,e,c,d⟩:=st;exact⟨o,e,λv z=>by rw[d]at z;cases z⟩
 keep:=λi h h' st k=>st.at λo e=>k it (by simp) o e
 item:=by
  intro X hP hw hK hc i ao s σ H E I hf st hg;subst hP hw hK;let⟨xs,x,hq,hx⟩:=hg;let⟨aP,rv,p,hz⟩:=I.tuple hq;let⟨u,hu,ru⟩:=rv.get hx;let⟨f0,f1,f2,f3,f4,f5⟩:=hf it (by simp);refine wpAny_pyNext_tuple_item st (show s.heap.IsTuple a aP.toArray from p) (x:=u) (by simpa using hu) λh' DA sb=>?_;have I1:Inv X ao σ H { s with heap:=h' }:=I.turned (t':=s.toks) (λb o hb e=>(sb.2 b hb).trans e) f0 f1 f3 f4 f5;let⟨o,e,c,d⟩:=id DA;exact⟨u,rfl,Fp (s:={ s with heap:=h' }) e c d (by decide) ⟨x,H,I1,ru,⟨rfl,λys hy=>by rw[I.Cm hy hq];exact hx⟩,DA,λb hb=>(hf b hb).1⟩⟩
 done:=by
  intro X hP hw hK hc i ao s σ H E I hf st hg;subst hP hw hK;let⟨xs,hq,hx⟩:=hg;let⟨aP,rv,p,hz⟩:=I.tuple hq;let⟨f0,f1,f2,f3,f4,f5⟩:=hf it (by simp);have hl:=↑rv;exact wpAny_pyNext_tuple_end (I.ok.hd hc) st (show s.heap.IsTuple a aP.toArray from p) (by simp;lia) λh' eb=>⟨rfl,I.turned (t':=s.toks) (λb o hb e=>eb b o hb e) f0 f1 f3 f4 f5⟩
 self:=λ_ _ _ _ _ st h=>wpAny_pyIter_tupleiter st h
theorem zK{P:Program}{w:World}{K:Frag}(it:Addr)(lo:Int)(n:Nat):Ip P w K tg (LR lo n) [it] it (λi h=>IsRangeIter h it (lo+(i:Nat)*1) ((n:Int)-(i:Nat)) 1) where
 mem:=by simp
 obj:=λi h st b hb=>by
  have e:b=it:=by simpa using hb
  subst e
  exact⟨_,st,λv z=>by
   have z':Data.fields _=Data.cell v:=z
   cases z'⟩
 keep:=λi h h' st k=>k it (by simp) _ st
 item:=by
  intro X hP hw hK hc i ao s σ H E I hf st hg;subst hP hw hK;let⟨f0,f1,f2,f3,f4,f5⟩:=hf it (by simp);have W:=Walks.range (prog:=X.prog) (w:=X.w) (I.ok.hd hc) it lo 1 n;refine W.item i s _ _ hg st λv h' tk hv DA kk=>?_;let⟨t,rfl⟩:=hv;have I1:Inv X ao σ H { s with heap:=h',toks:=tk }:=I.turned (λb o hb e=>kk b o (by simpa using hb) e) f0 f1 f3 f4 f5;refine⟨Y,Fp (s:={ s with heap:=h',toks:=tk }) (n:="range_iterator") DA rfl rfl (by decide) ⟨.int (lo+i),H,I1,⟨t,?_⟩,⟨K⟩,DA,λb hb=>(hf b hb).1⟩⟩;rw[Int.mul_one]
 done:=by
  intro X hP hw hK hc i ao s σ H E I hf st hg;subst hP hw hK;let⟨f0,f1,f2,f3,f4,f5⟩:=hf it (by simp);exact wpAny_pyNext_range_end (I.ok.hd hc) st (by have:n<=i:=hg;lia) λh' eb=>⟨rfl,I.turned (t':=s.toks) (λb o hb e=>eb b o hb e) f0 f1 f3 f4 f5⟩
 self:=λ_ _ _ _ _ st h=>wpAny_pyIter_rangeiter st h
end L2
namespace L2
open Spec Rows
section
variable {X:Cx} {tg:Expr}
inductive isL(K:Frag)(x:V)(H:Hp)(R:It->Hp->Prop):Prop
 | mk (a:Addr) (_:x=↥a) (_:∃ xs,bG K H a xs) (_:R (Rg K a) H)
def UO(K:Frag)(tl:TE):TI:=fun σ H R=>tl σ H λx H1=>isL K x H1 R
def adW(K:Frag)(tl:TE):TI:=fun σ H R=>tl σ H λx H1=>∃ a,x=↥a/\(∃ xs,cW K H1 a xs)/\R (Zy K a) H1
def cu{tl:TE}(hl:PE X l tl):PI X tg l (UO X.K tl):=by
 intro ao s σ H R I h;refine c9 (hl ao s σ H _ I h) λv s1 zI=>?_;let⟨x,H1,I1,r1,q1⟩:=zI;let⟨a,e,⟨xs,hq⟩,q⟩:=q1;subst e;cases r1;let⟨aP,rv,p,hz⟩:=I1.list hq;refine wpAny_pyIter_list p.isList ?_;refine⟨s1.heap.objs.size,[s1.heap.objs.size],E,H1,rfl,I1.kept (t':=s1.toks) λb o e=>Heap.get?_push_of_some _ e,LS a _,⟨_,Heap.get?_push_size _ rfl,K⟩,λb hb=>?_,q⟩;have e:b=s1.heap.objs.size:=by simpa using hb
 subst e;exact I1.LQ (fK _) (I1.hok.fresh (fK _))
def Wi{tl:TE}(hl:PE X l tl):PI X tg l (adW X.K tl):=by
 intro ao s σ H R I h;refine c9 (hl ao s σ H _ I h) λv s1 Fj=>?_;let⟨x,H1,I1,r1,q1⟩:=Fj;let⟨a,e,⟨xs,hq⟩,q⟩:=q1;subst e;cases r1;let⟨aP,rv,p,hz⟩:=I1.tuple hq;refine wpAny_pyIter_tuple (show s1.heap.IsTuple a aP.toArray from p) ?_;refine⟨s1.heap.objs.size,[s1.heap.objs.size],E,H1,rfl,I1.kept (t':=s1.toks) λb o e=>Heap.get?_push_of_some _ e,Iq a _,⟨_,Heap.get?_push_size _ rfl,K⟩,λb hb=>?_,q⟩;have e:b=s1.heap.objs.size:=by simpa using hb
 subst e;exact I1.LQ (fK _) (I1.hok.fresh (fK _))
theorem N8{σ:St}{H:Hp}{s:Shared}{R:It->Hp->Prop}{E:Value->Shared->Prop}{lo hi:Int}{t u v:Tok}{tk:Nat}(I:Inv X ao σ H s)(h1:-(2^62)<=lo)(h2:lo<2^62)(h3:-(2^62)<=hi)(h4:hi<2^62)
  (q:R (LR lo (hi-lo).toNat) H):wpAny (model X.prog X.w) X.A (pyIter ↥s.heap.objs.size) (PIE X ao σ tg R) E { s with heap:=s.heap.push { cls:=.type "range",data:=.fields #[.int lo t,.int hi u,.int 1 v] },toks:=tk }:=by
 refine wpAny_pyIter_range (IsRange.new ..) (small_one h1 h2 h3 h4) ?_;have I1:Inv X ao σ H { s with heap:=s.heap.push { cls:=.type "range",data:=.fields #[.int lo t,.int hi u,.int 1 v] },toks:=tk }:=I.kept λb o e=>Heap.get?_push_of_some _ e;refine⟨(s.heap.push { cls:=.type "range",data:=.fields #[.int lo t,.int hi u,.int 1 v] }).objs.size,[(s.heap.push { cls:=.type "range",data:=.fields #[.int lo t,.int hi u,.int 1 v] }).objs.size],E,H,rfl, I1.kept (t':=tk) λb o e=>Heap.get?_push_of_some _ e,zK _ lo (hi-lo).toNat,?_,λb hb=>?_,q⟩
 ·have e1:lo+((0:Nat):Int)*1=lo:=by simp
  have e2:(((hi-lo).toNat:Nat):Int)-((0:Nat):Int)=Builtin.Range.rangeSize lo hi 1:=by rw[rangeSize_one];split <;> lia
  show IsRangeIter _ _ (lo+((0:Nat):Int)*1) ((((hi-lo).toNat:Nat):Int)-((0:Nat):Int)) 1;rw[e1,e2];exact Heap.get?_push_size _ rfl
 ·have e:b=(s.heap.push { cls:=.type "range",data:=.fields #[.int lo t,.int hi u,.int 1 v] }).objs.size:=by simpa using hb
  subst e;exact I1.LQ (fK _) (I1.hok.fresh (fK _))
inductive isR(vs:List V)(H:Hp)(R:It->Hp->Prop):Prop
 | mk (j:Int) (_:vs=[.int j]) (_:-(2^62)<=j) (_:j<2^62) (_:R (LR 0 j.toNat) H)
def Zz(ta:TA):TI:=fun σ H R=>ta σ H λvs H1=>isR vs H1 R
def iF{a:Expr}{ta:TA}{p:Pos}(hg:Gl X "range")(hm:X.mg "range"=none)(ha:PA X [a] ta)(hs:starEach [a] X.env=[(false,eval a X.env)]:=by rfl):PI X tg (.Call (.Name "range" p) [a] [] pos) (Zz ta):=by
 intro ao s σ H R I h;refine Call_ (wU I hg hm boot_range (PyProof.Rows.callWith_type1 (c9 (ha pos ao s σ H _ I h) λus s1 ⟨vs,H1,I1,r1,q1⟩=>?_) hs rfl));let⟨j,e,q1,q2,q⟩:=q1;subst e
 cases r1 with
 | cons r rr =>
  cases rr;let⟨t,rfl⟩:=r;exact call_range_1 (N8 I1 ∅ ∅ q1 q2 (by simpa using q))
def adX(wi:TI)(g:TG)(tb:TS):TS:=λD σ H=>wi σ H λJ H1=>∃ W:Nat->Nat->St->Hp->Prop,(∃ m,W 0 m σ H1)/\∀ i m σ H,W i m σ H->
 (J.stop i H/\D.nx σ H)\/(J.go i H/\∃ N:St->Hp->Prop,(∀ σ' H',N σ' H'->∃ m',m'<m/\W (i+1) m' σ' H')/\∀ x H',J.N7 i H x H'->g x σ H' fun σ2 H2=>tb { D with nx:=N,ct:=N,bk:=D.nx } σ2 H2)
def uy(fp:List Addr)(h:Heap):List (Addr × Obj):=fp.filterMap λb=>(h.get? b).map λo=>(b,o)
theorem gY{fp:List Addr}{h:Heap}{b:Addr}{o:Obj}(hb:b∈fp)(e:h.get? b=⇑o):(b,o)∈uy fp h:=List.mem_filterMap.mpr ⟨b,hb,by rw[e];rfl⟩
def LV{fp:List Addr}{h:Heap}{p:Addr × Obj}(hp:p∈uy fp h):p.1∈fp/\h.get? p.1=⇑p.2:=by
 let⟨b,hb,e⟩:=List.mem_filterMap.mp hp
 cases q:h.get? b with
 | none=>rw[q]at e;cases e
 | some o =>
  rw[q]at e;have e':(b,o)=p:=oB e;subst e';exact⟨hb,q⟩
theorem Inv.pinned{σ:St}{H:Hp}{s:Shared}{fp:List Addr}(I:Inv X ao σ H s)(hf:∀ b∈fp,pH X ao H b)(ho:∀ b∈fp,∃ o,s.heap.get? b=⇑o/\∀ v,o.data≠.cell v):Inv X (ao++uy fp s.heap) σ H s :=
 I.Kv λp hp=>(List.mem_append.mp hp).elim (λz=>I.pin p (pD _ z)) λz=>by
  let⟨hb,e⟩:=LV z;let⟨f0,f1,f2,_⟩:=hf p.1 hb;let⟨o,e',d⟩:=ho p.1 hb;rw[e]at e';cases e';exact⟨e,f0,f1,f2,d⟩
theorem Inv.oE{pl:List (Addr × Obj)}{σ:St}{H:Hp}{s:Shared}(I:Inv X (ao++pl) σ H s):Inv X ao σ H s:=I.Kv λp hp=>I.pin p (pD _ (tM _ hp))
theorem dX{iter:Expr}{wi:TI}{g:TG}{tb:TS}(hp:PassesOwn (model X.prog X.w) X.A X.env X.xe)(hc:X.calm=true)(hi:PI X tg iter wi)(hg:PG X tg g)(hb:Kx X body tb)
  (hs:∀ x,foldedSetIterable iter X.env x=pure x:=by intro _;rfl):PS X (.For tg iter body [] pos) (adX wi g tb):=by
 intro ao s σ H D I h;refine wpAny_For (c9 (hi ao s σ H _ I h) λv s1 h1=>c9 h1 λZx s2 h2=>?_) hs;let⟨it,fp,tn,J,H2,e,I2,T,st2,f2,W,⟨m0,w0⟩,pG⟩:=h2;subst e;have uz:∀ {H':Hp},(∀ b∈fp,H' b=none)->∀ b∈fp,pH X ao H' b:=λhn b hb=>⟨hn b hb,(f2 b hb).2⟩;refine codeAny_forLoop_any (λn s'=>∃ i σ' H',Inv X ao σ' H' s'/\tn i s'.heap/\(∀ b∈fp,H' b=none)/\W i n σ' H') ?_ m0 ⟨0,σ,H2,I2,st2,λb hb=>(f2 b hb).1,w0⟩;rintro n s3 ⟨i,σ3,H3,I3,st3,E5,w3⟩;rcases pG i n σ3 H3 w3 with ⟨stop,qn⟩|⟨go,N,hN,step⟩
 ·refine wpAny_passesOwn hp (c9 (T.done X rfl rfl rfl hc i ao s3 σ3 H3 X.xe I3 (uz E5) st3 stop) λr s4 Dy=>?_);let⟨hr,I4⟩:=Dy;subst hr;exact wpAny_execs_nil ⟨σ3,H3,I4,qn⟩
 ·refine wpAny_passesOwn hp (c9 (T.item X rfl rfl rfl hc i ao s3 σ3 H3 X.xe I3 (uz E5) st3 go) λr s4 Ij=>?_);let⟨u,hr,h4⟩:=Ij;subst hr;refine wpAny_passesOwn hp (c9 h4 λ_ s5 Ik=>?_);let⟨x,H5,I5,r5,y5,YK,fr5⟩:=Ik;have I5':=I5.pinned (uz fr5) (T.obj _ _ YK);refine wpAny_passesOwn hp (c9 (hg _ s5 σ3 H5 x u _ I5' r5 (step x H5 y5)) λ_ s6 Im=>?_);let⟨σ6,H6,I6,q6⟩:=Im;refine wpAny_passesOwn hp (c9 (hb _ s6 σ6 H6 _ I6 q6) λf s7 q7=>?_)
  have again:∀ {σ7:St} {H7:Hp},Inv X (ao++uy fp s5.heap) σ7 H7 s7->N σ7 H7->∃ m,m<n/\∃ i σ' H',Inv X ao σ' H' s7/\tn i s7.heap/\(∀ b∈fp,H' b=none)/\W i m σ' H':=λ{σ7 H7} I7 n7=>by
   let⟨m',hm,w7⟩:=hN σ7 H7 n7;refine⟨m',hm,i+1,σ7,H7,I7.oE,T.keep _ _ _ YK λb hb o e=>(I7.pin (b,o) (pD _ (pD _ (gY hb e)))).1,λb hb=>?_,w7⟩;let⟨o,e,d⟩:=T.obj _ _ YK b hb;exact (I7.pin (b,o) (pD _ (pD _ (gY hb e)))).2.1
  cases f with
  | next=>let⟨σ7,H7,I7,n7⟩:=q7;exact again I7 n7
  | cont=>let⟨σ7,H7,I7,n7⟩:=q7;exact again I7 n7
  | brk=>let⟨σ7,H7,I7,q7⟩:=q7;exact⟨σ7,H7,I7.oE,q7⟩
  | ret v=>let⟨x7,σ7,H7,I7,r7,q7⟩:=q7;exact⟨x7,σ7,H7,I7.oE,r7,q7⟩
end
theorem dB{K:Frag}{a:Addr}{xs:List V}{g:TG}{tb:TS}{D:Ends}{σ:St}{H:Hp}(Pv:Nat->St->Hp->Prop)(h0:Pv 0 σ H)(hl:∀ i σ H,i<=↑xs->Pv i σ H->bG K H a xs)
  (hs:∀ i x σ H,xs[i]?=⇑x->Pv i σ H->g x σ H fun σ2 H2=>tb { D with nx:=Pv (i+1),ct:=Pv (i+1),bk:=D.nx } σ2 H2) (hd:∀ σ H,Pv ↑xs σ H->D.nx σ H) :
  ∃ W:Nat->Nat->St->Hp->Prop,(∃ m,W 0 m σ H)/\∀ i m σ H,W i m σ H->
   ((Rg K a).stop i H/\D.nx σ H)\/((Rg K a).go i H/\∃ N:St->Hp->Prop,(∀ σ' H',N σ' H'->∃ m',m'<m/\W (i+1) m' σ' H')/\∀ x H',(Rg K a).N7 i H x H'->g x σ H' fun σ2 H2=>tb { D with nx:=N,ct:=N,bk:=D.nx } σ2 H2):=by
 refine⟨λi m σ H=>m=↑xs-i/\i<=↑xs/\Pv i σ H,⟨↑xs,by simp,Nat.zero_le _,h0⟩,?_⟩;rintro i m σ H ⟨rfl,hi,p⟩;have q:=hl i σ H hi p;by_cases qP:i<↑xs
 ·refine .inr ⟨⟨xs,xs[i],q,by simp[qP]⟩,Pv (i+1),fun σ' H' p'=>⟨↑xs-(i+1),by lia,rfl,qP,p'⟩,λx H' y=>?_⟩;let⟨e,y⟩:=y;subst e;exact hs i x σ _ (y xs q) p
 ·have e:i=↑xs:=by lia
  subst e;exact .inl ⟨⟨xs,q,fK _⟩,hd σ H p⟩
theorem RJ{K:Frag}{a:Addr}{xs:List V}{g:TG}{tb:TS}{D:Ends}{σ:St}{H:Hp}(Pv:Nat->St->Hp->Prop)(h0:Pv 0 σ H)(hl:∀ i σ H,i<=↑xs->Pv i σ H->cW K H a xs)
  (hs:∀ i x σ H,xs[i]?=⇑x->Pv i σ H->g x σ H fun σ2 H2=>tb { D with nx:=Pv (i+1),ct:=Pv (i+1),bk:=D.nx } σ2 H2) (hd:∀ σ H,Pv ↑xs σ H->D.nx σ H) :
  ∃ W:Nat->Nat->St->Hp->Prop,(∃ m,W 0 m σ H)/\∀ i m σ H,W i m σ H->
   ((Zy K a).stop i H/\D.nx σ H)\/((Zy K a).go i H/\∃ N:St->Hp->Prop,(∀ σ' H',N σ' H'->∃ m',m'<m/\W (i+1) m' σ' H')/\∀ x H',(Zy K a).N7 i H x H'->g x σ H' fun σ2 H2=>tb { D with nx:=N,ct:=N,bk:=D.nx } σ2 H2):=by
 refine⟨λi m σ H=>m=↑xs-i/\i<=↑xs/\Pv i σ H,⟨↑xs,by simp,Nat.zero_le _,h0⟩,?_⟩;rintro i m σ H ⟨rfl,hi,p⟩;have q:=hl i σ H hi p;by_cases qP:i<↑xs
 ·refine .inr ⟨⟨xs,xs[i],q,by simp[qP]⟩,Pv (i+1),fun σ' H' p'=>⟨↑xs-(i+1),by lia,rfl,qP,p'⟩,λx H' y=>?_⟩;let⟨e,y⟩:=y;subst e;exact hs i x σ _ (y xs q) p
 ·have e:i=↑xs:=by lia
  subst e;exact .inl ⟨⟨xs,q,fK _⟩,hd σ H p⟩
theorem oF{lo:Int}{n:Nat}{g:TG}{tb:TS}{D:Ends}{σ:St}{H:Hp}(Pv:Nat->St->Hp->Prop)(h0:Pv 0 σ H)
  (hs:∀ i σ H,i<n->Pv i σ H->g (.int (lo+i)) σ H fun σ2 H2=>tb { D with nx:=Pv (i+1),ct:=Pv (i+1),bk:=D.nx } σ2 H2) (hd:∀ σ H,Pv n σ H->D.nx σ H) :
  ∃ W:Nat->Nat->St->Hp->Prop,(∃ m,W 0 m σ H)/\∀ i m σ H,W i m σ H->
   ((LR lo n).stop i H/\D.nx σ H)\/((LR lo n).go i H/\∃ N:St->Hp->Prop,(∀ σ' H',N σ' H'->∃ m',m'<m/\W (i+1) m' σ' H')/\∀ x H',(LR lo n).N7 i H x H'->g x σ H' fun σ2 H2=>tb { D with nx:=N,ct:=N,bk:=D.nx } σ2 H2):=by
 refine⟨λi m σ H=>m=n-i/\i<=n/\Pv i σ H,⟨n,by simp,Nat.zero_le _,h0⟩,?_⟩;rintro i m σ H ⟨rfl,hi,p⟩;by_cases qP:i<n
 ·refine .inr ⟨qP,Pv (i+1),fun σ' H' p'=>⟨n-(i+1),by lia,rfl,qP,p'⟩,λx H' y=>?_⟩;let⟨e,y⟩:=y;subst e y;exact hs i σ _ qP p
 ·have e:i=n:=by lia
  subst e;exact .inl ⟨Nat.le_refl _,hd σ H p⟩
end L2
namespace L2
open Spec Rows
abbrev R2:=V->V->Hp->VK->Prop
def uA(X:Cx)(f:Value->Value->Sem Value)(r:R2):Prop :=
 ∀ (ao:List (Addr × Obj)) (s:Shared) (σ:St) (H:Hp) (x y:V) (v u:Value) (Q:VK),Inv X ao σ H s->RelV x v->RelV y u->r x y H Q->
  wpAny (model X.prog X.w) X.A (f v u) (EP X ao σ Q) X.xe s
def UnR(X:Cx)(f:Value->Sem Value)(r:V->Hp->VK->Prop):Prop :=
 ∀ (ao:List (Addr × Obj)) (s:Shared) (σ:St) (H:Hp) (x:V) (v:Value) (Q:VK),Inv X ao σ H s->RelV x v->r x H Q->
  wpAny (model X.prog X.w) X.A (f v) (EP X ao σ Q) X.xe s
def jA(X:Cx)(f:Value)(r:List V->Hp->VK->Prop):Prop :=
 ∀ (ao:List (Addr × Obj)) (s:Shared) (σ:St) (H:Hp) (xs:List V) (us:List Value) (Q:VK),Inv X ao σ H s->b8 xs us->r xs H Q->
  wpAny (model X.prog X.w) X.A (call f us) (EP X ao σ Q) X.xe s
def ad0(X:Cx)(r:V->Hp->(Bool->Hp->Prop)->Prop):Prop :=
 ∀ (ao:List (Addr × Obj)) (s:Shared) (σ:St) (H:Hp) (x:V) (v:Value) (Q:Bool->Hp->Prop),Inv X ao σ H s->RelV x v->r x H Q->
  wpAny (model X.prog X.w) X.A (truthy v) (TP X ao σ Q) X.xe s
def ZA(r:R2)(ta tb:TE):TE:=fun σ H Q=>ta σ H λx H1=>tb σ H1 λy H2=>r x y H2 Q
def tUn(r:V->Hp->VK->Prop)(ta:TE):TE:=fun σ H Q=>ta σ H λx H1=>r x H1 Q
inductive rI(C:Int->Int->Prop)(g:Int->Int->V)(x y:V)(H:Hp)(Q:VK):Prop
 | mk (i j:Int) (_:x=.int i) (_:y=.int j) (_:C i j) (_:Q (g i j) H):rI C g x y H Q
inductive UP(g:Int->Int->V)(x y:V)(H:Hp)(Q:VK):Prop
 | mk (i j:Int) (_:x=.int i) (_:y=.int j) (_:Q (g i j) H)
def rU(g:Int->V):V->Hp->VK->Prop:=λx H Q=>∃ i,x=.int i/\Q (g i) H
section
variable {X:Cx} {a b c:Expr} {ta tb tc:TE} {pos:Pos}
theorem Wj(ha:PE X a ta)(hb:PE X b tb){ao:List (Addr × Obj)}{s:Shared}{σ:St}{H:Hp}{R:V->V->Hp->Prop}(I:Inv X ao σ H s)
  (h:ta σ H λx H1=>tb σ H1 λy H2=>R x y H2) {Q:Value->Shared->Prop} {f:Value->Value->Sem Value}
  (hf:∀ v u s2 x y H2,Inv X ao σ H2 s2->RelV x v->RelV y u->R x y H2->wpAny (model X.prog X.w) X.A (f v u) Q X.xe s2) :
  wpAny (model X.prog X.w) X.A (eval a X.env) (λv s₁=>wpAny (model X.prog X.w) X.A (eval b X.env) (λu s₂=>wpAny (model X.prog X.w) X.A (f v u) Q X.xe s₂) X.xe s₁) X.xe s:=by
 refine c9 (ha ao s σ H _ I h) λv s1 Il=>?_;let⟨x,H1,I1,r1,q1⟩:=Il;refine c9 (hb ao s1 σ H1 _ I1 q1) λu s2 zI=>?_;let⟨y,H2,I2,r2,q2⟩:=zI;exact hf v u s2 x y H2 I2 r1 r2 q2
def bz{op:Operator}{r:R2}(ho:uA X (binaryOp op) r)(ha:PE X a ta)(hb:PE X b tb):PE X (.BinOp a op b pos) (ZA r ta tb):=by
 intro ao s σ H Q I h;exact wpAny_BinOp (Wj ha hb I h λv u s2 x y H2 I2 rx ry q=>ho ao s2 σ H2 x y v u Q I2 rx ry q)
def gv{op:UnaryOp}{r:V->Hp->VK->Prop}(ho:UnR X (unaryOp op) r)(ha:PE X a ta):PE X (.UnaryOp op a pos) (tUn r ta):=by
 intro ao s σ H Q I h;exact UnaryOp_ (c9 (ha ao s σ H _ I h) λv s1 ⟨x,H1,I1,r1,q1⟩=>ho ao s1 σ H1 x v Q I1 r1 q1)
theorem opI{f:Value->Value->Sem Value}{C:Int->Int->Prop}{g:Int->Int->Int}
  (rule:∀ (i j:Int) (t u:Tok) (s:Shared) (Q:Value->Shared->Prop) (E:Value->Shared->Prop),C i j->Q (.int (g i j) s.toks) { s with toks:=s.toks+1 }->wpAny (model X.prog X.w) X.A (f (.int i t) (.int j u)) Q E s) :
  uA X f (rI C λi j=>.int (g i j)):=by
 intro ao s σ H x y v u Q I rx ry h;let⟨i,j,rfl,rfl,hc,q⟩:=h;let⟨t,rfl⟩:=rx;let⟨t',rfl⟩:=ry;exact rule i j t t' s _ _ hc ⟨.int (g i j),H,I.tok _,⟨Y⟩,q⟩
theorem ZC{f:Value->Value->Sem Value}{g:Int->Int->Int}
  (rule:∀ (i j:Int) (t u:Tok) (s:Shared) (Q:Value->Shared->Prop) (E:Value->Shared->Prop),Q (.int (g i j) s.toks) { s with toks:=s.toks+1 }->wpAny (model X.prog X.w) X.A (f (.int i t) (.int j u)) Q E s) :
  uA X f (UP λi j=>.int (g i j)):=by
 intro ao s σ H x y v u Q I rx ry h;let⟨i,j,rfl,rfl,q⟩:=h;let⟨t,rfl⟩:=rx;let⟨t',rfl⟩:=ry;exact rule i j t t' s _ _ ⟨.int (g i j),H,I.tok _,⟨Y⟩,q⟩
theorem RK{f:Value->Value->Sem Value}{g:Int->Int->Bool}
  (rule:∀ (i j:Int) (t u:Tok) (s:Shared) (Q:Value->Shared->Prop) (E:Value->Shared->Prop),Q (.bool (g i j)) s->wpAny (model X.prog X.w) X.A (f (.int i t) (.int j u)) Q E s) :
  uA X f (UP λi j=>.bl (g i j)):=by
 intro ao s σ H x y v u Q I rx ry h;let⟨i,j,rfl,rfl,q⟩:=h;let⟨t,rfl⟩:=rx;let⟨t',rfl⟩:=ry;exact rule i j t t' s _ _ ⟨.bl (g i j),H,I,rfl,q⟩
def ad1(i j:Int):Prop:=0<=j/\j<=1000000/\i.natAbs<2^64
def Wk(i j:Int):Prop:=(-(2^64)<i/\i<2^64)\/(-(2^64)<j/\j<2^64)
def Wk.ok{i j:Int}(h:Wk i j):IntMulOk i j:=by
 rcases h with ⟨h1,h2⟩|⟨h1,h2⟩
 ·exact .of_left (intBits_le_64 h1 h2)
 ·exact .of_right (intBits_le_64 h1 h2)
theorem dH:uA X (binaryOp .Add) (UP λi j=>.int (i+j)):=ZC λ_ _ _ _ _ _ _ q=>add_int q
theorem cY:uA X (binaryOp .Sub) (UP λi j=>.int (i-j)):=ZC λ_ _ _ _ _ _ _ q=>sub_int q
theorem Ir:uA X (binaryOp .Mult) (rI Wk λi j=>.int (i*j)):=opI λ_ _ _ _ _ _ _ hc q=>mul_int q hc.ok
theorem zL:uA X (binaryOp .Mod) (rI (λ_ j=>0<j) λi j=>.int (i % j)):=opI λi j _ _ _ _ _ hc q=>by
 have h1:(0:Int)<j:=hc;exact mod_int' ∅ (by rw[Int.fmod_eq_emod_of_nonneg i ∅];exact q)
theorem N9:uA X (binaryOp .Pow) (rI ad1 λi j=>.int (i^j.toNat)):=opI λ_ _ _ _ _ _ _ hc q=>pow_int_small hc.1 hc.2.1 hc.2.2 q
theorem unI{f:Value->Sem Value}{g:Int->Int}
  (rule:∀ (i:Int) (t:Tok) (s:Shared) (Q:Value->Shared->Prop) (E:Value->Shared->Prop),Q (.int (g i) s.toks) { s with toks:=s.toks+1 }->wpAny (model X.prog X.w) X.A (f (.int i t)) Q E s) :
  UnR X f (rU λi=>.int (g i)):=by
 intro ao s σ H x v Q I rx h;let⟨i,rfl,q⟩:=h;let⟨t,rfl⟩:=rx;exact rule i t s _ _ ⟨.int (g i),H,I.tok _,⟨Y⟩,q⟩
theorem d7:UnR X (unaryOp .USub) (rU λi=>.int (-i)):=unI λ_ _ _ _ _ q=>neg_int q
end
def ZD:V->V->Bool
 | .fT,.fT=>true | .fT,.int _=>true | .int _,.fT=>true | .fT,.bl _=>true | .bl _,.fT=>true | .fT,.str _=>true | .str _,.fT=>true
 | .int _,.int _=>true | .bl _,.bl _=>true | .str _,.str _=>true | .Ie _,.Ie _=>true
 | .int _,.str _=>true | .str _,.int _=>true | .bl _,.str _=>true | .str _,.bl _=>true
 | _,_=>false
def rEq:R2:=λx y H Q=>ZD x y=true/\Q (.bl (decide (x=y))) H
def rNe:R2:=λx y H Q=>ZD x y=true/\Q (.bl (!decide (x=y))) H
def KA{i j:Int}:decide (V.int i=V.int j)=(i == j):=by
 rw[Bool.eq_iff_iff];simp
def Oa{i j:Bool}:decide (V.bl i=V.bl j)=(i == j):=by
 rw[Bool.eq_iff_iff];simp
def KC{i j:Str}:decide (V.str i=V.str j)=(i == j):=by
 rw[Bool.eq_iff_iff];simp
def KD{i j:Array UInt8}:decide (V.Ie i=V.Ie j)=(i.toList == j.toList):=by
 rw[Bool.eq_iff_iff];cases i;cases j;simp
section
variable {X:Cx} {a b c:Expr} {ta tb tc:TE} {pos:Pos}
def dI{σ:St}{H:Hp}{s:Shared}{Q:VK}{k k':Bool}(I:Inv X ao σ H s)(q:Q (.bl k) H)(e:k=k'):EP X ao σ Q (.bool k') s:=by
 subst e;exact⟨.bl k,H,I,rfl,q⟩
def dY:uA X (compareOp .Eq) rEq:=by
 intro ao s σ H x y v u Q I rx ry h;let⟨hs,q⟩:=h
 cases x with
 | fT =>
  cases rx
  cases y with
  | fT=>cases ry;exact PySem.EqNone.eq_none_none (dI I q (by simp))
  | bl j=>cases ry;exact PySem.EqNone.eq_none_bool (dI I q (by simp))
  | int j=>let⟨t',rfl⟩:=ry;exact PySem.EqNone.eq_none_int (dI I q (by simp))
  | str j=>let⟨t',rfl⟩:=ry;exact PySem.EqNone.eq_none_str (dI I q (by simp))
  | _=>exact absurd (show false=true from hs) gF
 | bl i =>
  cases rx
  cases y with
  | fT=>cases ry;exact PySem.EqNone.eq_bool_none (dI I q (by simp))
  | bl j=>cases ry;exact eq_bool (dI I q Oa)
  | str j=>let⟨t',rfl⟩:=ry;exact PySem.EqMixed.eq_bool_str (dI I q (by simp))
  | _=>exact absurd (show false=true from hs) gF
 | int i =>
  let⟨t,rfl⟩:=rx
  cases y with
  | fT=>cases ry;exact PySem.EqNone.eq_int_none (dI I q (by simp))
  | int j=>let⟨t',rfl⟩:=ry;exact eq_int (dI I q KA)
  | str j=>let⟨t',rfl⟩:=ry;exact PySem.EqMixed.eq_int_str (dI I q (by simp))
  | _=>exact absurd (show false=true from hs) gF
 | str i =>
  let⟨t,rfl⟩:=rx
  cases y with
  | fT=>cases ry;exact PySem.EqNone.eq_str_none (dI I q (by simp))
  | bl j=>cases ry;exact PySem.EqMixed.eq_str_bool (dI I q (by simp))
  | int j=>let⟨t',rfl⟩:=ry;exact PySem.EqMixed.eq_str_int (dI I q (by simp))
  | str j=>let⟨t',rfl⟩:=ry;exact eq_str (dI I q KC)
  | _=>exact absurd (show false=true from hs) gF
 | Ie i =>
  let⟨t,rfl⟩:=rx
  cases y with
  | Ie j=>let⟨t',rfl⟩:=ry;exact PySem.W.eq_bytes (dI I q KD)
  | _=>exact absurd (show false=true from hs) gF
 | _=>cases y <;> exact absurd (show false=true from hs) gF
def Cn:uA X (compareOp .NotEq) rNe:=by
 intro ao s σ H x y v u Q I rx ry h;let⟨hs,q⟩:=h
 cases x with
 | fT =>
  cases rx
  cases y with
  | fT=>cases ry;exact PySem.EqNone.ne_none_none (dI I q (by simp))
  | bl j=>cases ry;exact PySem.EqNone.ne_none_bool (dI I q (by simp))
  | int j=>let⟨t',rfl⟩:=ry;exact PySem.EqNone.ne_none_int (dI I q (by simp))
  | str j=>let⟨t',rfl⟩:=ry;exact PySem.EqNone.ne_none_str (dI I q (by simp))
  | _=>exact absurd (show false=true from hs) gF
 | bl i =>
  cases rx
  cases y with
  | fT=>cases ry;exact PySem.EqNone.ne_bool_none (dI I q (by simp))
  | bl j=>cases ry;exact ne_bool (dI I q (congrArg not Oa))
  | str j=>let⟨t',rfl⟩:=ry;exact PySem.EqMixed.ne_bool_str (dI I q (by simp))
  | _=>exact absurd (show false=true from hs) gF
 | int i =>
  let⟨t,rfl⟩:=rx
  cases y with
  | fT=>cases ry;exact PySem.EqNone.ne_int_none (dI I q (by simp))
  | int j=>let⟨t',rfl⟩:=ry;exact ne_int (dI I q (congrArg not KA))
  | str j=>let⟨t',rfl⟩:=ry;exact PySem.EqMixed.ne_int_str (dI I q (by simp))
  | _=>exact absurd (show false=true from hs) gF
 | str i =>
  let⟨t,rfl⟩:=rx
  cases y with
  | fT=>cases ry;exact PySem.EqNone.ne_str_none (dI I q (by simp))
  | bl j=>cases ry;exact PySem.EqMixed.ne_str_bool (dI I q (by simp))
  | int j=>let⟨t',rfl⟩:=ry;exact PySem.EqMixed.ne_str_int (dI I q (by simp))
  | str j=>let⟨t',rfl⟩:=ry;exact ne_str (dI I q (congrArg not KC))
  | _=>exact absurd (show false=true from hs) gF
 | Ie i =>
  let⟨t,rfl⟩:=rx
  cases y with
  | Ie j=>let⟨t',rfl⟩:=ry;exact PySem.W.ne_bytes (dI I q (congrArg not KD))
  | _=>exact absurd (show false=true from hs) gF
 | _=>cases y <;> exact absurd (show false=true from hs) gF
theorem jT:uA X (compareOp .Lt) (UP λi j=>.bl (decide (i<j))):=RK λ_ _ _ _ _ _ _ q=>lt_int q
theorem fY:uA X (compareOp .LtE) (UP λi j=>.bl (decide (i<=j))):=RK λ_ _ _ _ _ _ _ q=>le_int q
theorem Fq:uA X (compareOp .Gt) (UP λi j=>.bl (decide (j<i))):=RK λ_ _ _ _ _ _ _ q=>gt_int q
theorem UQ:uA X (compareOp .GtE) (UP λi j=>.bl (decide (j<=i))):=RK λ_ _ _ _ _ _ _ q=>ge_int q
def bh(b:Expr){op:CmpOp}(h:op≠.In:=by decide)(h2:op≠.NotIn:=by decide):behindInMarks op b=false:=by
 have e1:(op == CmpOp.In)=false:=by cases op <;> first|rfl|exact absurd rfl h
 have e2:(op == CmpOp.NotIn)=false:=by cases op <;> first|rfl|exact absurd rfl h2
 cases b <;> simp[behindInMarks,e1,e2]
def lN{op:CmpOp}{r:R2}(ho:uA X (compareOp op) r)(ha:PE X a ta)(hb:PE X b tb)(hm:behindInMarks op b=false):PE X (.Compare a [op] [b] pos) (ZA r ta tb):=by
 intro ao s σ H Q I h;exact wpAny_Compare1 (Wj ha hb I h λv u s2 x y H2 I2 rx ry q=>ho ao s2 σ H2 x y v u Q I2 rx ry q) hm
def UR(t:TE):TT:=fun σ H Q=>t σ H λx H'=>isB x H' Q
def aV{op:CmpOp}{r:R2}(ho:uA X (compareOp op) r)(ha:PE X a ta)(hb:PE X b tb)(hm:behindInMarks op b=false):PT X (.Compare a [op] [b] pos) (UR (ZA r ta tb)):=by
 intro ao s σ H Q I h
 refine wpAny_isTrue_Compare1 (c9 (ha ao s σ H _ I h) λv s1 ⟨x,H1,I1,r1,q1⟩=>c9 (hb ao s1 σ H1 _ I1 q1) λu s2 ⟨y,H2,I2,r2,q2⟩ =>
  c9 (ho ao s2 σ H2 x y v u _ I2 r1 r2 q2) λc s3 ⟨z,H3,I3,r3,k,e,q3⟩=>?_) hm
 subst e;cases r3;exact wpAny_truthy_bool ⟨H3,I3,q3⟩
def Wl(r r':R2)(ta tb tc:TE):TE:=fun σ H Q=>ta σ H λx H1=>tb σ H1 λy H2=>r x y H2 λz H3=>∃ k,z=.bl k/\
 (if k=true then tc σ H3 λw' H4=>r' y w' H4 Q else Q (.bl false) H3)
theorem qW{op HS:CmpOp}{r r':R2}(ho:uA X (compareOp op) r)(LO:uA X (compareOp HS) r')(ha:PE X a ta)(hb:PE X b tb)(hc:PE X c tc)
  (hm:lastMarks [op,HS] [b,c]=false:=by with_unfolding_all rfl):PT X (.Compare a [op,HS] [b,c] pos) (UR (Wl r r' ta tb tc)):=by
 intro ao s σ H Q I h
 refine isTrue_chain (c9 (ha ao s σ H _ I h) λv s1 ⟨x,H1,I1,r1,q1⟩=>test_link (c9 (hb ao s1 σ H1 _ I1 q1) λu s2 ⟨y,H2,I2,r2,q2⟩ =>
  c9 (ho ao s2 σ H2 x y v u _ I2 r1 r2 q2) λd s3 ⟨z,H3,I3,r3,k,e,q3⟩=>?_)) hm
 subst e;cases r3;refine wpAny_truthy_bool ?_
 cases k with
 | false =>
  let⟨k',e',q'⟩:=q3;cases e';exact ite_ff ⟨H3,I3,q'⟩
 | true =>
  refine ite_tt (test_last (c9 (hc ao s3 σ H3 _ I3 q3) λw' s4 ⟨z',H4,I4,r4,q4⟩=>c9 (LO ao s4 σ H4 y z' u w' _ I4 r2 r4 q4) λd' s5 Fj=>?_));let⟨z2,H5,I5,r5,k2,e2,q5⟩:=Fj;subst e2;cases r5;exact wpAny_truthy_bool ⟨H5,I5,q5⟩
def ZE(K:Frag)(x:V)(H:Hp)(k:Bool):Prop :=
 match x with
 | .fT=>k=false
 | .bl b=>k=b
 | .int i=>k=(i != 0)
 | .str y=>↑y<=sizeLine/\k=((↑y:Int) != 0)
 | .Ie y=>y.size<=sizeLine/\k=((y.size:Int) != 0)
 | .ref p=>(∃ xs,bG K H p xs/\k=!xs.isEmpty)\/(∃ xs,cW K H p xs/\k=!xs.isEmpty)\/∃ kvs,H p=⇑(.dK kvs)/\k=!kvs.isEmpty
 | _=>False
def Iu{κ:Type}{kvs:List (κ × V)}{vs:List (κ × Value)}(r:KV kvs vs):(!vs.isEmpty)=!kvs.isEmpty:=by
 cases r <;> rfl
def zM{xs:List V}{aP:List Value}(r:b8 xs aP):(!aP.toArray.isEmpty)=!xs.isEmpty:=by
 cases r <;> simp
def wX:(sizeLine:Nat)<2^63:=by rw[sizeLine_eq];decide
def Wm:ad0 X (λx H Q=>∃ k,ZE X.K x H k/\Q k H):=by
 intro ao s σ H x v Q I rx h;let⟨k,e,q⟩:=h;have hl:=wX;have hs:sizeLine=16777216:=sizeLine_eq
 cases x with
 | fT =>
  cases rx;have e':k=false:=e;subst e';exact truthy_none ⟨H,I,q⟩
 | bl b =>
  cases rx;have e':k=b:=e;subst e';exact wpAny_truthy_bool ⟨H,I,q⟩
 | int i =>
  let⟨t,rfl⟩:=rx;have e':k=(i != 0):=e;subst e';exact PySem.P.truthy_int ⟨H,I,q⟩
 | str y =>
  let⟨t,rfl⟩:=rx;obtain⟨hy,e'⟩:↑y<=sizeLine/\k=((↑y:Int) != 0):=e;subst e';exact PySem.P.truthy_str ∅ ⟨H,I.tok _,q⟩
 | Ie y =>
  let⟨t,rfl⟩:=rx;obtain⟨hy,e'⟩:y.size<=sizeLine/\k=((y.size:Int) != 0):=e;subst e';exact PySem.W.truthy_bytes ∅ ⟨H,I.tok _,q⟩
 | ref p =>
  cases rx;have e':(∃ xs,bG X.K H p xs/\k=!xs.isEmpty)\/(∃ xs,cW X.K H p xs/\k=!xs.isEmpty)\/∃ kvs,H p=⇑(.dK kvs)/\k=!kvs.isEmpty:=e;rcases e' with ⟨xs,hx,e'⟩|⟨xs,hx,e'⟩|⟨kvs,hx,e'⟩
  ·subst e';let⟨aP,r,pl,hz⟩:=I.list hx;have dJ:=↑r;exact wpAny_truthy_list pl.isList (by simp only[gP];lia) ⟨H,I.tok _,by rw[zM r];exact q⟩
  ·subst e';let⟨aP,r,pl,hz⟩:=I.tuple hx;have dJ:=↑r;exact truthy_tuple pl (by simp only[gP];lia) ⟨H,I.tok _,by rw[zM r];exact q⟩
  ·subst e';obtain⟨hz,hS,vs,r,m⟩:↑kvs<=sizeLine/\(p == sysModules)=false/\∃ vs,KV kvs vs/\s.heap.DictOf (eE X.prog X.w) p vs:=I.hok p _ hx;have dJ:↑kvs=↑vs:=Paired.length r;exact wpAny_truthy_dict hS m ∅ ⟨H,I.tok _,by rw[Iu r];exact q⟩
 | _=>exact (show False from e).elim
theorem mq(ha:PE X a ta)(he:∀ zH,isTrue a X.env zH=(do let v ← zH;standAt a.pos;holding [v] (truthy v))) :
  PT X a (fun σ H Q=>ta σ H λx H'=>∃ k,ZE X.K x H' k/\Q k H'):=by
 intro ao s σ H Q I h;exact isTrue_plain (c9 (ha ao s σ H _ I h) λv s1 ⟨x,H1,I1,r1,q1⟩=>Wm ao s1 σ H1 x v Q I1 r1 q1) (he _)
def vals1{x:V}{us:List Value}(r:b8 [x] us):∃ u,us=[u]/\RelV x u:=by
 cases r with
 | cons r1 r2=>cases r2;exact⟨Y,r1⟩
def vals2{x y:V}{us:List Value}(r:b8 [x,y] us):∃ u w',us=[u,w']/\RelV x u/\RelV y w':=by
 cases r with
 | cons r1 r2 =>
  cases r2 with
  | cons r3 r4=>cases r4;exact⟨E,rfl,r1,r3⟩
def lX(hc:X.calm=true):jA X (.builtin "max") (λxs H Q=>∃ i j,xs=[.int i,.int j]/\Q (.int (if j > i then j else i)) H):=by
 intro ao s σ H xs us Q I r h;let⟨i,j,rfl,q⟩:=h;let⟨u,w',rfl,⟨t,rfl⟩,⟨t',rfl⟩⟩:=vals2 r;refine max_two_ints (I.ok.hd hc) λh' tk k=>⟨_,H,I.kept k,?_,q⟩;by_cases hj:j > i
 ·rw[if_pos hj,if_pos hj];exact⟨Y⟩
 ·rw[if_neg hj,if_neg hj];exact⟨Y⟩
def oG(hc:X.calm=true):jA X (.builtin "min") (λxs H Q=>∃ i j,xs=[.int i,.int j]/\Q (.int (if j<i then j else i)) H):=by
 intro ao s σ H xs us Q I r h;let⟨i,j,rfl,q⟩:=h;let⟨u,w',rfl,⟨t,rfl⟩,⟨t',rfl⟩⟩:=vals2 r;refine min_two_ints (I.ok.hd hc) λh' tk k=>⟨_,H,I.kept k,?_,q⟩;by_cases hj:j<i
 ·rw[if_pos hj,if_pos hj];exact⟨Y⟩
 ·rw[if_neg hj,if_neg hj];exact⟨Y⟩
end
end L2
namespace L2
open Spec Rows
structure Iv(h:Heap)(x dx C:Addr)(mA:Str->Option Value):Prop where
 obj:h.get? x=⇑(instObj C dx)
 ns:h.Ns1 dx mA
 ne:dx≠x
def LW{h:Heap}{mA:Str->Option Value}(n:h.Ns1 dx mA):∃ od,h.get? dx=⇑od/\∀ name,lookIn name od=⇑(mA name):=by
 let⟨o,es,ep,ho,hd,hk,_,hm⟩:=n;refine⟨o,ho,λname=>?_⟩;have e:=hm name;unfold nsFind findBy at e;rw[← Array.find?_toList]at e;unfold lookIn;rw[hd];dsimp only;split
 ·rename_i y q;rw[q]at e;exact congrArg some e
 ·rename_i q;rw[q]at e
  have a:es.toList.any (·.refKey)=false:=by
   rw[List.any_eq_false];intro y hy;let⟨z,t,hkey⟩:=hk y (Array.mem_toList_iff.mp hy);simp[DictEntry.refKey,hkey]
  have a':¬ es.toList.any (·.refKey)=true:=by rw[a];exact gF
  rw[if_neg a'];exact congrArg some e
theorem Iv.look{h:Heap}{x:Addr}{mA:Str->Option Value}(I:Iv h x dx C mA):∃ od,InstAt h x (instObj C dx) C (⇑od)/\∀ name,lookIn name od=⇑(mA name) :=
 let ⟨od,ho,hl⟩:=LW I.ns
 ⟨od,⟨I.obj,K,ho⟩,hl⟩
section
variable {prog:Program} {w:World} {A:Around} {E:Value->Shared->Prop} {s:Shared} {K:Frag} {x dx C f:Addr} {mA:Str->Option Value} {name:Str} {v:Value}
theorem RL{ad2:Bool}{Q:Value->Shared->Prop}(X:K.In s.heap)(I:Iv s.heap x dx C mA)(hg:plainGet K C name=true)(hh:hasDictIn K C=true)
  (ha:findIn K ↥C name=⇑none) (hv:mA name=⇑v) (hv':handedIn v=true) (h:Q v { s with toks:=s.toks+1 }) :
  wpAny (model prog w) A (getAttr ↥x name ad2) Q E s:=by
 let⟨od,J,hl⟩:=I.look;exact PySem.W.get_value X J (plainGet_of hg).1 (PySem.W.findObj_own hh ha rfl (by rw[hl,hv])) hv' h
theorem Ob{pl:Sem Bool}{Q:Value × List Value->Shared->Prop}(X:K.In s.heap)(I:Iv s.heap x dx C mA)(hg:plainGet K C name=true)
  (hf:findIn K ↥C name=⇑(⇑↥f)) (ht:isFn K ↥f=true) (hv:mA name=none) (h:Q (.ref f,[↥x]) s) :
  wpAny (model prog w) A (getMethod ↥x name pl) Q E s:=by
 let⟨od,J,hl⟩:=I.look;exact PySem.W.method_fn X J (plainGet_of hg).1 (plainGet_of hg).2 hf (beq_iff_eq.mp ht) (by show (lookIn name od).map (·.isSome)=⇑false;rw[hl,hv];rfl) h
theorem RM{ns:List Str}{Q:Unit->Shared->Prop}(X:K.In s.heap)(I:Iv s.heap x dx C mA)
  (hs:findIn K ↥C "__setattr__"=⇑(⇑(.builtin "object.__setattr__"))) (hp:plainOver K C=true) (ht:takerIn K C name=⇑none) (hh:hasDictIn K C=true)
  (hw:PySem.Within mA ns) (hsz:↑ns<=sizeLine)
  (h:∀ h',Iv h' x dx C (λy=>if y=name then some v else mA y)->Heap.SameBut dx s.heap h'->Q () { s with heap:=h',toks:=s.toks+2 }) :
  wpAny (model prog w) A (setAttr ↥x name v) Q E s:=by
 let⟨od,J,hl⟩:=I.look;refine PySem.W.set_plain X J hs (PySem.W.osa_open (s:={ s with toks:=s.toks+1 }) (r:=none) X J hp ht λb=>?_);let⟨cd,hc,hd'⟩:=PySem.W.any_some hh;have hx:s.heap.get? x=some ⟨↥C,⇑dx,.plain,#[]⟩:=I.obj;refine wpAny_bind (wpAny_pure (wpAny_bind (wpAny_bind (wpAny_loadPart hx (wpAny_bind (PySem.W.Looks.here (s:={ s with toks:=s.toks+1 }) (PySem.W.looks_clsIn X hc) ?_))))));rw[hd'];refine wpAny_pure (a:=⇑dx) (wpAny_bind (wpAny_pure (wpAny_bind ?_)));refine wpAny_nsSet1 (s:={ s with toks:=s.toks+1 }) I.ns λh' hn2 HU=>?_;let⟨oD,esD,epD,hoD,hdD,hcD⟩:=hn2.count (PySem.Within.cons name v hw);refine wpAny_bind (wpAny_lookBehind hoD (by rw[hdD];exact pastItsLine_dict (gX hcD (by rw[jS];lia))) ?_);exact wpAny_pure (h _ ⟨(HU.2 _ (Ne.symm I.ne)).trans I.obj,hn2,I.ne⟩ HU)
theorem Oc{R:Result->Shared->Prop}{vs:List Value}{kw:List (Str × Value)}(X:K.In s.heap)(hm:makesIn K C=true)
  (hi:findIn K ↥C "__init__"=⇑(⇑↥f)) (hf:typeIn K ↥f=⇑(.type "function"))
  (h:codeAny (model prog w) (A.under (.builtin "type.__call__" ⟨↥C::vs,kw⟩)) (.call ↥f ⟨.ref (s.heap.objs.size+1)::vs,kw⟩) (PySem.W.InitBack (s.heap.objs.size+1) R)
   { s with heap:=(s.heap.push emptyDict).push (instObj C s.heap.objs.size) }) :
  codeAny (model prog w) A (.call ↥C ⟨vs,kw⟩) R s:=by
 let⟨hh,g,d,t,os⟩:=s;exact PySem.W.make_core (PySem.W.makes_of X hm) (PySem.W.looks_findIn X hi) (λself=>PySem.W.bind_fn X self hf) (.inl rfl) h
end
def dZ(f:Str)(v:V):List (Str × V)->List (Str × V)
 | []=>[(f,v)]
 | (g,x)::r=>if g=f then (g,v)::r else (g,x)::dZ f v r
theorem yt(f g:Str)(v:V):∀ fs:List (Str × V),(dZ f v fs).lookup g=if g=f then some v else fs.lookup g
 | []=>by
  show List.lookup g [(f,v)]=_;by_cases h:g=f
  ·have hb:(g == f)=true:=beq_iff_eq.mpr h;simp only[List.lookup,hb,if_pos h]
  ·have hb:(g == f)=false:=beq_eq_false_iff_ne.mpr h;simp only[List.lookup,hb,if_neg h]
 | (k,x)::r=>by
  have ih:=yt f g v r;rw[show dZ f v ((k,x)::r)=(if k=f then (k,v)::r else (k,x)::dZ f v r) from rfl];by_cases hk:k=f
  ·rw[if_pos hk];by_cases h:g=k
   ·have hb:(g == k)=true:=beq_iff_eq.mpr h;simp only[List.lookup,hb,if_pos (h.trans hk)]
   ·have hb:(g == k)=false:=beq_eq_false_iff_ne.mpr h;simp only[List.lookup,hb,if_neg (λe:g=f=>h (e.trans hk.symm))]
  ·rw[if_neg hk];by_cases h:g=k
   ·have hb:(g == k)=true:=beq_iff_eq.mpr h;simp only[List.lookup,hb,if_neg (λe:g=f=>hk (h.symm.trans e))]
   ·have hb:(g == k)=false:=beq_eq_false_iff_ne.mpr h;simp only[List.lookup,hb];exact ih
theorem wY(f:Str)(v:V):∀ fs:List (Str × V),f∈(dZ f v fs).map (·.1)/\∀ g,g∈fs.map (·.1)->g∈(dZ f v fs).map (·.1)
 | []=>⟨by simp[dZ],λg h=>by simp at h⟩
 | (k,x)::r=>by
  let⟨i1,i2⟩:=wY f v r;rw[show dZ f v ((k,x)::r)=(if k=f then (k,v)::r else (k,x)::dZ f v r) from rfl];by_cases hk:k=f
  ·rw[if_pos hk];subst hk;exact⟨by simp,λg h=>by simpa using h⟩
  ·rw[if_neg hk];refine⟨?_,λg h=>?_⟩
   ·rw[jy];exact nI _ i1
   ·rw[jy]at h ⊢;rcases List.mem_cons.mp h with e|e
    ·exact List.mem_cons.mpr (.inl e)
    ·exact nI _ (i2 g e)
theorem yu(f:Str)(v:V):∀ fs:List (Str × V),↑(dZ f v fs)<=↑fs+1
 | []=>by simp[dZ]
 | (k,x)::r=>by
  have ih:=yu f v r;rw[show dZ f v ((k,x)::r)=(if k=f then (k,v)::r else (k,x)::dZ f v r) from rfl];by_cases hk:k=f
  ·rw[if_pos hk,jS,jS];lia
  ·rw[if_neg hk,jS,jS];lia
def qI.some_of{v:V}{o:Option Value}(r:qI (⇑v) o):∃ u,o=⇑u/\RelV v u:=by
 cases o with
 | none=>exact (show False from r).elim
 | some u=>exact⟨u,rfl,r⟩
def qI.none_of{o:Option Value}(r:qI none o):o=none:=by
 cases o with
 | none=>rfl
 | some u=>exact (show False from r).elim
def LX{v:V}{u:Value}(r:RelV v u):handedIn u=true:=by
 cases v with
 | fT=>cases (show u=Value.none from r);rfl
 | bl b=>cases (show u=Value.bool b from r);rfl
 | int i=>let⟨t,e⟩:=(show ∃ t,u=Value.int i t from r);cases e;rfl
 | str x=>let⟨t,e⟩:=(show ∃ t,u=Value.str x t from r);cases e;rfl
 | Ie b=>let⟨t,e⟩:=(show ∃ t,u=Value.bytes b t from r);cases e;rfl
 | UJ b=>let⟨t,e⟩:=(show ∃ t,u=Value.float b t from r);cases e;rfl
 | ref a=>cases (show u=Value.ref a from r);rfl
 | ty n=>cases (show u=Value.type n from r);rfl
section
variable {P:Program} {w:World} {H H':Hp} {h h':Heap} {a C dx:Addr} {fs YJ:List (Str × V)}
def zp(hok:vq P w H h)(e:H a=⇑(.ins C dx fs)):∃ mA,Iv h a dx C mA/\(∀ f,qI (fs.lookup f) (mA f))/\PySem.Within mA (fs.map (·.1))/\↑fs<=1000/\H dx=⇑(.own a):=by
 let⟨d,z,ne,ob,mA,n,r,q⟩:=(show fC P w H h a (.ins C dx fs) from hok a _ e);exact⟨mA,⟨ob,n,ne⟩,r,q,z,d⟩
end
structure NG(K:Frag)(C:Addr):Prop where
 pg:plainGet K C Str.empty=true
 hd:hasDictIn K C=true
 po:plainOver K C=true
 sa:findIn K ↥C "__setattr__"=⇑(⇑(.builtin "object.__setattr__"))
theorem NG.get{K:Frag}(c:NG K C)(f:Str):plainGet K C f=true:=c.pg
def fP(K:Frag)(C:Addr)(f:Str):Prop:=findIn K ↥C f=⇑none
def fP.ZF{K:Frag}{f:Str}(n:fP K C f):takerIn K C f=⇑none:=by
 unfold takerIn;rw[show findIn K ↥C f=⇑none from n];rfl
structure Od(K:Frag)(C:Addr)(m:Str)(f:Addr):Prop where
 at_:findIn K ↥C m=⇑(⇑↥f)
 fn:isFn K ↥f=true
 kp:keepIn K ↥f=true
section
variable {X:Cx} {ao:List (Addr × Obj)} {σ:St} {H:Hp} {s:Shared} {a C dx:Addr} {fs:List (Str × V)} {f:Str} {v:V} {A:Around} {E:Value->Shared->Prop}
theorem zN{b:Bool}{Q:Value->Shared->Prop}(I:Inv X ao σ H s)(e:H a=⇑(.ins C dx fs))(c:NG X.K C)(n:fP X.K C f)(l:fs.lookup f=⇑v)
  (h:∀ u s',Inv X ao σ H s'->RelV v u->Q u s'):wpAny (model X.prog X.w) A (getAttr ↥a f b) Q E s:=by
 let⟨mA,O,r,_,_,_⟩:=zp I.hok e;let⟨u,hu,ru⟩:=qI.some_of (v:=v) (o:=mA f) (by rw[← l];exact r f);exact RL I.yq O (c.get f) c.hd n hu (LX ru) (h u _ (I.tok _) ru)
theorem zO{m:Str}{g:Addr}{pl:Sem Bool}{Q:Value × List Value->Shared->Prop}(I:Inv X ao σ H s)(e:H a=⇑(.ins C dx fs))(c:NG X.K C)(k:Od X.K C m g)(l:fs.lookup m=none)
  (h:Q (.ref g,[↥a]) s):wpAny (model X.prog X.w) A (getMethod ↥a m pl) Q E s:=by
 let⟨mA,O,r,_,_,_⟩:=zp I.hok e;have hn:mA m=none:=qI.none_of (by rw[← l];exact r m);exact Ob I.yq O (c.get m) k.at_ k.fn hn h
theorem zP{y:V}{u:Value}{Q:Unit->Shared->Prop}(I:Inv X ao σ H s)(e:H a=⇑(.ins C dx fs))(c:NG X.K C)(n:fP X.K C f)(hl:↑fs<1000)(ry:RelV y u)
  (h:∀ s',Inv X ao σ (aN H a (.ins C dx (dZ f y fs))) s'->Q () s'):wpAny (model X.prog X.w) A (setAttr ↥a f u) Q E s:=by
 let⟨mA,O,r,wi,_,ho⟩:=zp I.hok e;have hz:↑(fs.map (·.1))<=sizeLine:=by rw[cB,sizeLine_eq];lia
 refine RM I.yq O c.sa c.po n.ZF c.hd wi hz λh' O' sb=>h _ ?_;have hd:∃ o,h'.get? dx=⇑o:=let ⟨o,E,e',_⟩:=O'.ns;⟨o,e'⟩;refine I.write (x:=a) (e:=dx) (by rw[e];exact True.intro) (.inr ho) (λb q hb z=>(sb.2 b hb).trans z) hd ?_;refine⟨by rw[aL O.ne];exact ho,?_,O.ne,O'.obj,_,O'.ns,λg=>?_,λg hg=>?_⟩
 ·have:=yu f y fs;lia
 ·show qI ((dZ f y fs).lookup g) (if g=f then some u else mA g);rw[yt];by_cases q:g=f
  ·rw[if_pos q,if_pos q];exact ry
  ·rw[if_neg q,if_neg q];exact r g
 ·by_cases q:g=f
  ·rw[q];exact (wY f y fs).1
  ·refine (wY f y fs).2 g (wi g λz=>hg ?_);show (if g=f then some u else mA g)=none;rw[if_neg q];exact z
theorem Inv.made(I:Inv X ao σ H s):Inv X ao σ (aN (aN H s.heap.objs.size (.own (s.heap.objs.size+1))) (s.heap.objs.size+1) (.ins C s.heap.objs.size []))
  { s with heap:=(s.heap.push emptyDict).push (instObj C s.heap.objs.size) }:=by
 have e1:(s.heap.push emptyDict).get? s.heap.objs.size=⇑emptyDict:=Heap.get?_push_size s.heap rfl
 have e2:((s.heap.push emptyDict).push (instObj C s.heap.objs.size)).get? (s.heap.objs.size+1)=⇑(instObj C s.heap.objs.size):=by
  have:=Heap.get?_push_size (s.heap.push emptyDict) (o:=instObj C s.heap.objs.size) rfl;rwa [Heap.size_push]at this
 have e3:(s.heap.push emptyDict).Ns s.heap.objs.size (λ_=>none):=⟨emptyDict,#[],_,e1,rfl,(λe he=>absurd he (by simp)),λ_=>rfl⟩;have I1:=I.laid (a:=s.heap.objs.size) (o:=.own (s.heap.objs.size+1)) (h':=s.heap.push emptyDict) (t':=s.toks) (λb u q=>Heap.get?_push_of_some _ q) (fK _) ⟨_,e1⟩;refine I1.laid (a:=s.heap.objs.size+1) (o:=.ins C s.heap.objs.size []) (t':=s.toks) (λb u q=>Heap.get?_push_of_some _ q) (Nat.le_of_eq (Heap.size_push _ _)) ?_;have ne:s.heap.objs.size≠s.heap.objs.size+1:=jv (Nat.lt_succ_self _);refine⟨by rw[aL ne,af],Nat.zero_le _,ne,e2,λ_=>none,(Heap.Ns1.of_empty e3).at λo q=>Heap.get?_push_of_some _ q,λ_=>True.intro,λy hy=>absurd rfl hy⟩
theorem RN{prog:Program}{w:World}{env:Env}{e:Expr}{f:Str}{s:Shared}{Q:Value->Shared->Prop}(hb:attributeBase e f env (eval e env)=eval e env)
  (h:wpAny (model prog w) A (eval e env) (λo s₁=>wpAny (model prog w) A (getAttr o f true) Q E s₁) E s):wpAny (model prog w) A (eval (.Attribute e f pos) env) Q E s :=
 Attribute_any_ h (by rw[arm_eval_Attribute,hb])
end
inductive ZG(K:Frag)(f:Str)(x:V)(H:Hp)(Q:VK):Prop
 | mk (a C dx:Addr) (fs:List (Str × V)) (v:V) (_:x=↥a) (_:H a=⇑(.ins C dx fs)) (_:NG K C) (_:fP K C f) (_:fs.lookup f=⇑v) (_:Q v H):ZG K f x H Q
def ZH(K:Frag)(ta:TE)(f:Str):TE:=fun σ H Q=>ta σ H λx H1=>ZG K f x H1 Q
def ad3(K:Frag)(ta tv:TE)(f:Str):TS:=λD σ H=>tv σ H λy H1=>ta σ H1 λx H2=>∃ a C dx fs,x=↥a/\H2 a=⇑(.ins C dx fs)/\NG K C/\fP K C f/\↑fs<1000/\
 D.nx σ (aN H2 a (.ins C dx (dZ f y fs)))
def Wn(X:Cx)(op:Operator)(rd:V->V->Hp->VK->Prop):Prop :=
 ∀ (ao:List (Addr × Obj)) (s:Shared) (σ:St) (H:Hp) (x y:V) (u v:Value) (Q:VK),Inv X ao σ H s->RelV x u->RelV y v->rd x y H Q->wpAny (model X.prog X.w) X.A (inplaceOp op u v) (EP X ao σ Q) X.xe s
def RO(K:Frag)(ta tv:TE)(rd:V->V->Hp->VK->Prop)(f:Str):TS:=λD σ H=>ta σ H λx H1=>∃ a C dx fs v,x=↥a/\H1 a=⇑(.ins C dx fs)/\NG K C/\fP K C f/\fs.lookup f=⇑v/\
 tv σ H1 λy H2=>rd v y H2 λz H3=>∃ dx' YJ,H3 a=⇑(.ins C dx' YJ)/\YJ.length<1000/\D.nx σ (aN H3 a (.ins C dx' (dZ f z YJ)))
section
variable {X:Cx} {o e value:Expr} {f:Str} {pos iU LY:Pos} {ta tv:TE}
def cC(he:PE X e ta)(hb:attributeBase e f X.env (eval e X.env)=eval e X.env):PE X (.Attribute e f pos) (ZH X.K ta f):=by
 intro ao s σ H Q I h;refine RN hb (c9 (he ao s σ H _ I h) λu s1 Dy=>?_);let⟨x,H1,I1,rx,a,C,dx,fs,v,ex,ea,c,n,l,q⟩:=Dy;subst ex;obtain rfl:u=Value.ref a:=rx;exact zN I1 ea c n l λu' s2 I2 ru=>⟨v,H1,I2,ru,q⟩
def je(ha:PE X o ta)(hv:PE X value tv)(hs:swapsWith value (⇑(.Attribute o f iU)) pos.line X.env=pure false):PS X (.Assign [.Attribute o f iU] value pos) (ad3 X.K ta tv f):=by
 intro ao s σ H D I h;refine plainObj_wpAny_Assign_Attribute (c9 (hv ao s σ H _ I h) λu s1 h1=>?_) hs;let⟨y,H1,I1,ry,q⟩:=h1;refine c9 (ha ao s1 σ H1 _ I1 q) λov s2 h2=>?_;let⟨x,H2,I2,rx,a,C,dx,fs,ex,ea,c,n,l,q2⟩:=h2;subst ex;obtain rfl:ov=Value.ref a:=rx;exact zP I2 ea c n l ry λs3 I3=>⟨σ,_,I3,q2⟩
def su{op:Operator}{rd:V->V->Hp->VK->Prop}(ha:PE X o ta)(hv:PE X value tv)(Rh:Wn X op rd):PS X (.AugAssign (.Attribute o f LY) op value pos) (RO X.K ta tv rd f):=by
 intro ao s σ H D I h;refine wpAny_AugAssign_AttributeAny (c9 (ha ao s σ H _ I h) λov s1 h1=>?_);let⟨x,H1,I1,rx,a,C,dx,fs,v,ex,ea,c,n,l,q⟩:=h1;subst ex;obtain rfl:ov=Value.ref a:=rx;refine zN I1 ea c n l λu s2 I2 ru=>c9 (hv ao s2 σ H1 _ I2 q) λw3 s3 ⟨y,H2,I3,ry,q3⟩=>c9 (Rh ao s3 σ H2 v y u w3 _ I3 ru ry q3) λw4 s4 Ik=>?_;let⟨z,H3,I4,rz,dx',YJ,ea',l',q4⟩:=Ik;exact zP I4 ea' c n l' rz λs5 I5=>⟨σ,_,I5,q4⟩
end
section
variable {X:Cx} {ao:List (Addr × Obj)} {σ:St} {H:Hp} {s:Shared} {A:Around} {E:Value->Shared->Prop} {Q:Value->Shared->Prop} {c:Value} {b:Bool}
inductive kg(K:Frag)(H:Hp):V->Value->Prop where
 | fT:kg K H .fT (.type "NoneType")
 | bl (x:Bool):kg K H (.bl x) (.type "bool")
 | int (i:Int):kg K H (.int i) (.type "int")
 | str (x:Str):kg K H (.str x) (.type "str")
 | UJ (x:UInt64):kg K H (.UJ x) (.type "float")
 | lst {a:Addr} {xs:List V} (e:H a=⇑(.lst xs)):kg K H ↥a (.type "list")
 | Ks {a:Addr} {o:Obj} {xs:List V} (e:H a=⇑(.Ks o (.lst xs))):kg K H ↥a (.type "list")
 | tup {a:Addr} {xs:List V} (e:H a=⇑(.tup xs)):kg K H ↥a (.type "tuple")
 | dK {a:Addr} {kvs:List (dN × V)} (e:H a=⇑(.dK kvs)):kg K H ↥a (.type "dict")
 | dT {a:Addr} {kvs:List (List dN × V)} (e:H a=⇑(.dT kvs)):kg K H ↥a (.type "dict")
 | ins {a C dx:Addr} {fs:List (Str × V)} (e:H a=⇑(.ins C dx fs)) (cl:NG K C) (ha:findIn K ↥C "__class__"=⇑(⇑(.builtin "object.__class__")))
   (hn:PySem.W.specialIn K (.builtin "object.__class__") "__get__"=⇑(⇑(.builtin "getset_descriptor.__get__"))) (htk:PySem.W.takesIn K (.builtin "object.__class__")=⇑true)
   (hm:mroIn K C (.type "object")=⇑true):kg K H ↥a ↥C
theorem LZ{x:V}{u t:Value}(I:Inv X ao σ H s)(rx:RelV x u)(ty:kg X.K H x t)(e:kitOne X.K t c=⇑b)(h:∀ tk,Q (.bool b) { s with toks:=tk }) :
  wpAny (model X.prog X.w) A (call (.builtin "isinstance") [u,c]) Q E s:=by
 cases ty with
 | fT=>cases (show u=Value.none from rx);exact kia_one PySem.W.kitx_none I.yq True.intro e (λz=>nomatch z) h
 | bl y=>cases (show u=Value.bool y from rx);exact kia_one PySem.W.kitx_bool I.yq True.intro e (λz=>nomatch z) h
 | int i=>let⟨t,q⟩:=(show ∃ t,u=Value.int i t from rx);cases q;exact kia_one PySem.W.kitx_int I.yq True.intro e (λz=>nomatch z) h
 | str y=>let⟨t,q⟩:=(show ∃ t,u=Value.str y t from rx);cases q;exact kia_one PySem.W.kitx_str I.yq True.intro e (λz=>nomatch z) h
 | UJ y=>let⟨t,q⟩:=(show ∃ t,u=Value.float y t from rx);cases q;exact kia_one PySem.W.kitx_float I.yq True.intro e (λz=>nomatch z) h
 | @lst a xs ea =>
  cases (show u=Value.ref a from rx);let⟨_,_,n,_,h1⟩:=(show fC X.prog X.w H s.heap a (.lst xs) from I.hok a _ ea);exact kia_one kitx_list I.yq ⟨_,h1,rfl⟩ e (λz=>nomatch z) h
 | @Ks a ob xs ea =>
  cases (show u=Value.ref a from rx);let⟨_,_,_,n,_,h1⟩:=(show fC X.prog X.w H s.heap a (.Ks ob (.lst xs)) from I.hok a _ ea);exact kia_one kitx_list I.yq ⟨_,h1,rfl⟩ e (λz=>nomatch z) h
 | @tup a xs ea =>
  cases (show u=Value.ref a from rx);let⟨_,_,_,p⟩:=(show fC X.prog X.w H s.heap a (.tup xs) from I.hok a _ ea);let⟨o,h1,h2,_⟩:=p;exact kia_one PySem.W.kitx_tuple I.yq ⟨o,h1,h2⟩ e (λz=>nomatch z) h
 | @dK a kvs ea =>
  cases (show u=Value.ref a from rx);let⟨_,_,vs,_,p⟩:=(show fC X.prog X.w H s.heap a (.dK kvs) from I.hok a _ ea);let⟨o,es,ep,h1,h2,_⟩:=p;exact kia_one kitx_dict I.yq ⟨o,h1,h2.1⟩ e (λz=>nomatch z) h
 | @dT a kvs ea =>
  cases (show u=Value.ref a from rx);let⟨_,_,xs,_,o,es,ep,h1,h2,_⟩:=(show fC X.prog X.w H s.heap a (.dT kvs) from I.hok a _ ea);exact kia_one kitx_dict I.yq ⟨o,h1,h2.1⟩ e (λz=>nomatch z) h
 | @ins a C dx fs ea cl ha hn htk hm =>
  cases (show u=Value.ref a from rx);let⟨mA,O,_⟩:=zp I.hok ea;let⟨od,J,_⟩:=O.look;exact kia_one (PySem.W.kitx_own (cl.get _) cl.hd ha hn htk hm) I.yq J e (λz=>nomatch z) h
end
end L2
namespace L2
open Spec Rows
structure jf(k:Nat)(A:Around):Prop where
 hd:A.handled=none
 dp:A.depth+3*k+5<recursionLimit
 un:A.units+16*k+200<cLine
theorem jf.mono{j k:Nat}{A:Around}(r:jf k A)(h:j<=k):jf j A:=⟨r.hd,by have:=r.dp;lia,by have:=r.un;lia⟩
theorem jf.deeper{k:Nat}{A:Around}(r:jf (k+1) A)(env:Env):jf k (A.deeper env) :=
 ⟨r.hd,by have:=r.dp;show A.depth+1+3*k+5<_;lia,by have:=r.un;show A.units+3+16*k+200<_;lia⟩
def Iw{A:Around}{us:List Value}{kw:List (Str × Value)}:(A.under (.builtin "type.__call__" ⟨↥C::us,kw⟩)).depth=A.depth+1:=by
 first|rfl|simp[Around.under,Code.weight,Code.isCreation,Code.isGuard,Code.isCaller,Code.frames,Code.isFrame,guardIds]
def Iz{A:Around}{us:List Value}{kw:List (Str × Value)}:(A.under (.builtin "type.__call__" ⟨↥C::us,kw⟩)).units=A.units+1:=by
 first|rfl|simp[Around.under,Code.cUnits,Code.frames,Code.isFrame]
theorem jf.make{k:Nat}{A:Around}(r:jf (k+1) A)(C:Addr)(us:List Value)(kw:List (Str × Value)):jf k (A.under (.builtin "type.__call__" ⟨↥C::us,kw⟩)) :=
 ⟨r.hd,by have:=r.dp;rw[Iw];lia,by have:=r.un;rw[Iz];lia⟩
def jf.depth{k:Nat}{A:Around}(r:jf k A):A.depth<recursionLimit:=by have:=r.dp;lia
def jf.units{k:Nat}{A:Around}(r:jf k A):A.units+64<cLine:=by have:=r.un;lia
def zQ:TA:=λ_ H Q=>Q [] H
def Oe(ta:TE)(tr:TA):TA:=fun σ H Q=>ta σ H λx H1=>tr σ H1 λxs H2=>Q (x::xs) H2
section
variable {X:Cx} {e:Expr} {es:List Expr} {te:TE} {t:TA} {pos:Pos}
theorem ah:PA X [] zQ:=λ_ _ _ _ H Q I h=>Calls.spliced_nil ⟨[],H,I,.nil,h⟩
def aa(ha:PE X e te)(hr:PA X es t)(hs:starEach (e::es) X.env=(false,eval e X.env)::starEach es X.env:=by rfl):PA X (e::es) (Oe te t):=by
 intro pos ao s σ H Q I h;rw[hs];show wpAny _ _ (spliced ((false,eval e X.env)::backTo pos (starEach es X.env))) _ _ s;refine Calls.spliced_cons (c9 (ha ao s σ H _ I h) λu s1 Im=>?_);let⟨x,H1,I1,r1,q1⟩:=Im;exact c9 (hr pos ao s1 σ H1 _ I1 q1) λus s2 ⟨xs,H2,I2,r2,q2⟩=>⟨x::xs,H2,I2,.cons r1 r2,q2⟩
def ad5(t:TA):TE:=fun σ H Q=>t σ H λxs H1=>↑xs<=sizeLine/\∀ p,H1 p=none->Q ↥p (aN H1 p (.tup xs))
def L0(t:TA):TE:=fun σ H Q=>t σ H λxs H1=>↑xs<=sizeLine/\∀ p,H1 p=none->Q ↥p (aN H1 p (.lst xs))
def cH{x1}(h:PA X es t):PE X (.Tuple es x1 pos) (ad5 t):=by
 intro ao s σ H Q I hq;refine wpAny_Tuple_spliced (c9 (h pos ao s σ H _ I hq) λus s1 ⟨xs,H1,I1,r,z,q⟩=>⟨by rw[← ↑r];exact z,?_⟩);have hf:H1 s1.heap.objs.size=none:=I1.hok.fresh (fK _);refine⟨↥s1.heap.objs.size,aN H1 s1.heap.objs.size (.tup xs),I1.laid (t':=s1.toks) (λb u e=>Heap.get?_push_of_some _ e) (fK _) ?_,rfl,q _ hf⟩;exact⟨z,us,r,⟨_,Heap.get?_push_size _ rfl,rfl,Y⟩⟩
def bL(h:PA X es t):PE X (.List es pos) (L0 t):=by
 intro ao s σ H Q I hq;refine wpAny_List_spliced (c9 (h pos ao s σ H _ I hq) λus s1 ⟨xs,H1,I1,r,z,q⟩=>⟨by rw[← ↑r];exact z,?_⟩);have hf:H1 s1.heap.objs.size=none:=I1.hok.fresh (fK _);refine⟨↥s1.heap.objs.size,aN H1 s1.heap.objs.size (.lst xs),I1.laid (t':=s1.toks) (λb u e=>Heap.get?_push_of_some _ e) (fK _) ?_,rfl,q _ hf⟩;exact⟨z,us,0,r,Heap.get?_push_size _ rfl⟩
end
abbrev Sp:=List V->Hp->VK->XK->Prop
abbrev Of:=List Env->Hp->Shared->XK->Value->Shared->Prop
structure IC(P:Program)(w:World)(K:Frag)(mg:Str->Option Value)(zt:Heap)(A:Around)(zn:List Env)(s:Shared)(H:Hp):Prop where
 frames:A.frames=⇑zn
 mod:Mod K mg zt
 bs:∀ b o,zt.get? b=⇑o->s.heap.get? b=⇑o/\H b=none
 UL:zt.objs.size<=s.heap.objs.size
 yR:s.heap.FunFrames zt zn
 VW:∀ b∈N1 zn,H b=none
 hok:vq P w H s.heap
 bare:AllBare s.gens
def CE(zn:List Env)(P:Program)(w:World)(H:Hp)(s:Shared)(Q:VK)(u:Value)(s':Shared):Prop :=
 ∃ v H',s'.os=s.os/\AllBare s'.gens/\Un (N1 zn) [] H H' s.heap s'.heap/\vq P w H' s'.heap/\RelV v u/\Q v H'
def CR(CX:Of)(zn:List Env)(P:Program)(w:World)(H:Hp)(s:Shared)(Q:VK)(E:XK)(r:Result)(s':Shared):Prop :=
 match r with
 | .ok (.ret u)=>CE zn P w H s Q u s'
 | .ok _=>False
 | .error e=>CX zn H s E e s'
structure bq(P:Program)(w:World)(K:Frag)(mg:Str->Option Value)(zt:Heap)(CX:Of)(k:Nat)(f:Addr)(fd:FuncData)(ps:List Str)(sp:Sp):Prop where
 len:∀ vs H Q E,sp vs H Q E->↑vs=↑ps
 run:∀ (A:Around) (zn:List Env) (s:Shared) (H:Hp) (args:Args) (us:List Value) (vs:List V) (Q:VK) (E:XK),jf k A->IC P w K mg zt A zn s H->BindsTo s fd args (ps.zip us)->b8 vs us->sp vs H Q E->
  codeAny (model P w) A (.call ↥f args) (CR CX zn P w H s Q E) s
theorem IC.make{P:Program}{w:World}{K:Frag}{mg:Str->Option Value}{zt:Heap}{A:Around}{zn:List Env}{s:Shared}{H:Hp}(e:IC P w K mg zt A zn s H)(C:Addr)(us:List Value)(kw:List (Str × Value)) :
  IC P w K mg zt (A.under (.builtin "type.__call__" ⟨↥C::us,kw⟩)) zn s H:=⟨by first|exact e.frames|(simpa [Around.under,Code.envs,Code.isFrame,pushEnvs] using e.frames),e.mod,e.bs,e.UL,e.yR,e.VW,e.hok,e.bare⟩
section
variable {X:Cx} {ao:List (Addr × Obj)} {σ:St} {H:Hp} {s s':Shared}
theorem Inv.ZI(I:Inv X ao σ H s):IC X.prog X.w X.K X.mg X.zt X.A X.stack s H :=
 ⟨I.ok.frames,I.ok.mod,I.bs,gX I.ok.UL I.sz,I.stack,I.Ku,I.hok,I.bare⟩
def Inv.after{Q:VK}{u:Value}(I:Inv X ao σ H s)(h:CE X.stack X.prog X.w H s Q u s'):EP X ao σ Q u s':=by
 let⟨v,H',os,bare,un,hok,r,q⟩:=h;let⟨hh,g,d,t,os'⟩:=s';obtain rfl:os'=s.os:=os;exact⟨v,H',I.call (h':=hh) (g':=g) (d':=d) (t':=t) (ch:=[]) un hok bare (λb z=>absurd z (by simp)),r,q⟩
end
def KG(sp:Sp)(zR:List V)(E:XK)(t:TA):TE:=fun σ H Q=>t σ H λvs H1=>sp (vs++zR) H1 Q E
inductive ZJ(C:Addr)(m:Str)(x:V)(H:Hp)(N:Prop):Prop
 | mk (a dx:Addr) (fs:List (Str × V)) (_:x=↥a) (_:H a=⇑(.ins C dx fs)) (_:fs.lookup m=none) (_:N):ZJ C m x H N
def KH(C:Addr)(m:Str)(sp:Sp)(zR:List V)(E:XK)(ta:TE)(t:TA):TE:=fun σ H Q=>ta σ H λx H1=>ZJ C m x H1 (t σ H1 λvs H2=>sp (x::(vs++zR)) H2 Q E)
def ZK(C:Addr)(sp:Sp)(zR:List V)(E:XK)(t:TA):TE:=fun σ H Q=>t σ H λvs H1=>∀ x dx,H1 x=none->H1 dx=none->dx≠x->
 sp (.ref x::(vs++zR)) (aN (aN H1 dx (.own x)) x (.ins C dx [])) (λv H2=>v=.fT/\Q ↥x H2) E
def Binds(K:Frag)(fd:FuncData)(ps:List Str)(ds:List Value):Prop :=
 ∀ (s:Shared) (us:List Value),K.In s.heap->↑(us++ds)=↑ps->BindsTo s fd ⟨us,[]⟩ (ps.zip (us++ds))
theorem Binds.all{K:Frag}{ps:List Str}(h:∀ us:List Value,↑us=↑ps->bindArgs fd ⟨us,[]⟩=pure (ps.zip us)):Binds K fd ps []:=λs us _ hl=>by
 rw[fV]at hl ⊢;exact .of_eq (h us hl)
def nL(CX:Of)(X:Cx)(E:XK):Prop:=∀ (ao:List (Addr × Obj)) (σ:St) (H:Hp) (s:Shared) (e:Value) (s':Shared),Inv X ao σ H s->CX X.stack H s E e s'->X.xe e s'
section
variable {X:Cx} {CX:Of} {k:Nat} {f C:Addr} {fd:FuncData} {ps:List Str} {sp:Sp} {zR:List V} {ds:List Value} {E:XK} {x m:Str} {p pos jX:Pos} {e o:Expr} {es:List Expr} {ta:TE} {t:TA}
theorem DB{σ:St}{H:Hp}{s:Shared}{Q:VK}{us:List Value}{vs:List V}(F:bq X.prog X.w X.K X.mg X.zt CX k f fd ps sp)(hr:jf k X.A)(hb:Binds X.K fd ps ds)(hd:b8 zR ds)(hx:nL CX X E)
  (I:Inv X ao σ H s) (r:b8 vs us) (h:sp (vs++zR) H Q E):wpAny (model X.prog X.w) X.A (call ↥f us) (EP X ao σ Q) X.xe s:=by
 have r2:b8 (vs++zR) (us++ds):=r.append hd;have hl:↑(us++ds)=↑ps:=by rw[← ↑r2];exact F.len _ _ _ _ h
 refine wpAny_call (codeAny_mono (F.run X.A X.stack s H ⟨us,[]⟩ (us++ds) (vs++zR) Q E hr I.ZI (hb s us I.yq hl) r2 h) λr s' hq=>?_)
 cases r with
 | error e=>exact hx ao σ H s e s' I hq
 | ok fl =>
  cases fl with
  | ret u=>exact I.after hq
  | next=>exact False.elim hq
  | brk=>exact False.elim hq
  | cont=>exact False.elim hq
theorem KI(F:bq X.prog X.w X.K X.mg X.zt CX k f fd ps sp)(hr:jf k X.A)(hg:Gl X x)(hm:X.mg x=⇑↥f)(hk:keepIn X.K ↥f=true)(hb:Binds X.K fd ps ds)(hd:b8 zR ds)(hx:nL CX X E)
  (ha:PA X (e::es) t) (L5:(x == ("__debug__":Str))=false:=by decide) (he:starEach (e::es) X.env=(false,eval e X.env)::starEach es X.env:=by rfl) (E6:(backTo pos (starEach es X.env)).any (·.1)=false:=by rfl) :
  PE X (.Call (.Name x p) (e::es) [] pos) (KG sp zR E t):=by
 intro ao s σ H Q I h;refine wpAny_Call_Name_kw (zo I hg hm ?_ L5);refine callWith_K (h₀:=X.zt) I.ok.mod.kin hk (c9 (ha pos ao s σ H _ I h) λus s1 ⟨vs,H1,I1,r,q⟩=>⟨I1.yq,?_⟩) he E6;exact DB F hr hb hd hx I1 r q
theorem Og(F:bq X.prog X.w X.K X.mg X.zt CX k f fd ps sp)(hr:jf k X.A)(hg:Gl X x)(hm:X.mg x=⇑↥f)(hk:keepIn X.K ↥f=true)(hb:Binds X.K fd ps ds)(hd:b8 zR ds)(hx:nL CX X E)
  (L5:(x == ("__debug__":Str))=false:=by decide):PE X (.Call (.Name x p) [] [] pos) (KG sp zR E zQ):=by
 intro ao s σ H Q I h;refine wpAny_Call_Name_kw (zo I hg hm ?_ L5);exact callWith_K0 I.yq hk (DB (us:=[]) F hr hb hd hx I .nil h)
theorem RP{pl:Sem Bool}(he:PE X o ta)(c:NG X.K C)(hm:Od X.K C m f)(F:bq X.prog X.w X.K X.mg X.zt CX k f fd ps sp)(hr:jf k X.A)(hb:Binds X.K fd ps ds)(hd:b8 zR ds)(hx:nL CX X E)(ha:PA X (e::es) t)
  (Dz:starEach (e::es) X.env=(false,eval e X.env)::starEach es X.env:=by rfl) (E6:(backTo pos (starEach es X.env)).any (·.1)=false:=by rfl)
  (ht:eval (.Call (.Attribute o m jX) (e::es) [] pos) X.env=(do
   let ov ← eval o X.env
   standAt jX.atName
   let (f,first) ← holding [ov] (getMethod ov m pl)
   callWith pos f first (backTo pos (starEach (e::es) X.env)) (backToKw pos (keywordEach [] X.env))):=by rfl) :
  PE X (.Call (.Attribute o m jX) (e::es) [] pos) (KH C m sp zR E ta t):=by
 intro ao s σ H Q I h;refine methodCall_KW (pl:=pl) (c9 (he ao s σ H _ I h) λu s1 ⟨x,H1,I1,rx,a,dx,fs,ex,ea,l,q⟩=>?_) ht;subst ex;obtain rfl:u=Value.ref a:=rx;refine zO I1 ea c hm l ?_
 refine callWith_K (first:=[↥a]) (h₀:=X.zt) I.ok.mod.kin hm.kp (c9 (ha pos ao s1 σ H1 _ I1 q) λus s2 ⟨vs,H2,I2,r,q2⟩=>⟨I2.yq,?_⟩) Dz E6
 exact DB (us:=↥a::us) (vs:=↥a::vs) F hr hb hd hx I2 (.cons rfl r) q2
theorem Oh{pl:Sem Bool}(he:PE X o ta)(c:NG X.K C)(hm:Od X.K C m f)(F:bq X.prog X.w X.K X.mg X.zt CX k f fd ps sp)(hr:jf k X.A)(hb:Binds X.K fd ps ds)(hd:b8 zR ds)(hx:nL CX X E)
  (ht:eval (.Call (.Attribute o m jX) [] [] pos) X.env=(do
   let ov ← eval o X.env
   standAt jX.atName
   let (f,first) ← holding [ov] (getMethod ov m pl)
   callWith pos f first (backTo pos (starEach [] X.env)) (backToKw pos (keywordEach [] X.env))):=by rfl) :
  PE X (.Call (.Attribute o m jX) [] [] pos) (KH C m sp zR E ta zQ):=by
 intro ao s σ H Q I h;refine methodCall_KW (pl:=pl) (c9 (he ao s σ H _ I h) λu s1 ⟨x,H1,I1,rx,a,dx,fs,ex,ea,l,q⟩=>?_) ht;subst ex;obtain rfl:u=Value.ref a:=rx;refine zO I1 ea c hm l ?_
 exact callWith_K0 (first:=[↥a]) I1.yq hm.kp (DB (us:=[↥a]) (vs:=[↥a]) F hr hb hd hx I1 (.cons rfl .nil) q)
structure Mk(K:Frag)(C f:Addr):Prop where
 makes:makesIn K C=true
 init:findIn K ↥C "__init__"=⇑(⇑↥f)
 fn:isFn K ↥f=true
 kp:keepIn K ↥C=true
theorem Oi{σ:St}{H:Hp}{s:Shared}{Q:VK}{us:List Value}{vs:List V}(M:Mk X.K C f)(F:bq X.prog X.w X.K X.mg X.zt CX k f fd ps sp)(hr:jf (k+1) X.A)(hb:Binds X.K fd ps ds)(hd:b8 zR ds)
  (hx:nL CX X E) (I:Inv X ao σ H s) (r:b8 vs us)
  (h:∀ x dx,H x=none->H dx=none->dx≠x->sp (.ref x::(vs++zR)) (aN (aN H dx (.own x)) x (.ins C dx [])) (λv H2=>v=.fT/\Q ↥x H2) E) :
  wpAny (model X.prog X.w) X.A (call ↥C us) (EP X ao σ Q) X.xe s:=by
 have hq:=h (s.heap.objs.size+1) s.heap.objs.size (I.hok.fresh (Nat.le_succ _)) (I.hok.fresh (fK _)) (jv (Nat.lt_succ_self _));have I2:=Inv.made (C:=C) I;have r2:b8 (V.ref (s.heap.objs.size+1)::(vs++zR)) (Value.ref (s.heap.objs.size+1)::(us++ds)):=.cons rfl (r.append hd)
 have hl:↑(Value.ref (s.heap.objs.size+1)::us++ds)=↑ps:=by
  have e:=↑r2;rw[F.len _ _ _ _ hq]at e;exact e.symm
 refine wpAny_call (Oc (f:=f) I.yq M.makes M.init (beq_iff_eq.mp M.fn) (codeAny_mono (F.run _ X.stack _ _ ⟨Value.ref (s.heap.objs.size+1)::us,[]⟩ (Value.ref (s.heap.objs.size+1)::(us++ds)) _ _ E (hr.make C us []) (I2.ZI.make C us []) (hb _ (Value.ref (s.heap.objs.size+1)::us) I2.yq hl) r2 hq) λr s' Wq=>?_))
 cases r with
 | error e=>exact hx ao σ _ _ e s' I2 Wq
 | ok fl =>
  cases fl with
  | ret u =>
   let⟨v,H',I3,rv,ev,q3⟩:=I2.after Wq;subst ev;exact⟨rv,⟨V.ref (s.heap.objs.size+1),H',I3,rfl,q3⟩⟩
  | next=>exact False.elim Wq
  | brk=>exact False.elim Wq
  | cont=>exact False.elim Wq
theorem oH(M:Mk X.K C f)(F:bq X.prog X.w X.K X.mg X.zt CX k f fd ps sp)(hr:jf (k+1) X.A)(hg:Gl X x)(hm:X.mg x=⇑↥C)(hb:Binds X.K fd ps ds)(hd:b8 zR ds)(hx:nL CX X E)
  (L5:(x == ("__debug__":Str))=false:=by decide):PE X (.Call (.Name x p) [] [] pos) (ZK C sp zR E zQ):=by
 intro ao s σ H Q I h;refine wpAny_Call_Name_kw (zo I hg hm ?_ L5);exact callWith_K0 I.yq M.kp (Oi (us:=[]) M F hr hb hd hx I .nil h)
end
structure aF(N P:List Str)(sc:Scope):Prop where
 kind:sc.kind=.function
 co:sc.isCoroutine=false
 gen:sc.isGenerator=false
 nd:N.Nodup
 pre:N.take ↑P=P
 par:∀ x∈P,sc.names.lookup x=⇑.local\/sc.names.lookup x=⇑.cell
 Wr:∀ y∈sc.names,y.2≠.free
theorem Co{kindOf:Str->Option NameKind}{x:Str}:∀ {binds:List (Str × Value)} {m:Str->Option Value},(∀ v,(x,v)∉binds)->bindL kindOf binds m x=m x
 | [],_,_=>rfl
 | (n,v)::r,m,h=>by
  unfold bindL;rw[Co λw hw=>h w (nI _ hw)];split
  ·have:x≠n:=by rintro rfl;exact h v wO
   simp[this]
  ·rfl
theorem Cp{kindOf:Str->Option NameKind}{x:Str}:∀ {binds:List (Str × Value)} {m:Str->Option Value},(∀ v,(x,v)∉binds)->bindC kindOf binds m x=m x
 | [],_,_=>rfl
 | (n,v)::r,m,h=>by
  unfold bindC;rw[Cp λw hw=>h w (nI _ hw)];split
  ·rfl
  ·have:x≠n:=by rintro rfl;exact h v wO
   simp[this]
theorem Cq{kindOf:Str->Option NameKind}{x:Str}{v:Value}:∀ {P:List Str} {vs:List Value} {i:Nat} {m:Str->Option Value},P.Nodup->P[i]?=⇑x->vs[i]?=⇑v->kindOf x=⇑.local->
  bindL kindOf (P.zip vs) m x=⇑v
 | [],_,_,_,_,h,_,_=>by simp at h
 | _::_,[],_,_,_,_,h,_=>by simp at h
 | p::P,w::vs,0,m,nd,h1,h2,hk=>by
  simp at h1 h2;subst h1;subst h2;show bindL kindOf ((p,w)::P.zip vs) m p=_;unfold bindL;rw[Co λv hv=>(List.nodup_cons.mp nd).1 (List.of_mem_zip hv).1,if_pos hk];simp
 | p::P,w::vs,i+1,m,nd,h1,h2,hk=>by
  show bindL kindOf ((p,w)::P.zip vs) m x=_;unfold bindL;exact Cq (i:=i) (List.nodup_cons.mp nd).2 (by simpa using h1) (by simpa using h2) hk
theorem Cr{kindOf:Str->Option NameKind}{x:Str}{v:Value}:∀ {P:List Str} {vs:List Value} {i:Nat} {m:Str->Option Value},P.Nodup->P[i]?=⇑x->vs[i]?=⇑v->kindOf x≠some .local->
  bindC kindOf (P.zip vs) m x=⇑v
 | [],_,_,_,_,h,_,_=>by simp at h
 | _::_,[],_,_,_,_,h,_=>by simp at h
 | p::P,w::vs,0,m,nd,h1,h2,hk=>by
  simp at h1 h2;subst h1;subst h2;show bindC kindOf ((p,w)::P.zip vs) m p=_;unfold bindC;rw[Cp λv hv=>(List.nodup_cons.mp nd).1 (List.of_mem_zip hv).1,if_neg hk];simp
 | p::P,w::vs,i+1,m,nd,h1,h2,hk=>by
  show bindC kindOf ((p,w)::P.zip vs) m x=_;unfold bindC;exact Cr (i:=i) (List.nodup_cons.mp nd).2 (by simpa using h1) (by simpa using h2) hk
def start(N:List Str)(vs:List V):St:=vs.map some++List.replicate (↑N-↑vs) none
def ID(CX:Of)(P:Program)(w:World)(K:Frag)(mg:Str->Option Value)(zt:Heap)(N:List Str)(fN:Str)(scope:Scope)(f:Addr)(cd:Value)(A:Around)(zn:List Env)(s:Shared)(H:Hp)(E:XK):Cx where
 prog:=P
 w:=w
 K:=K
 mg:=mg
 zt:=zt
 A:=A.deeper (envOfC fN scope s.heap.objs.size f cd)
 N:=N
 s₀:=s
 H₀:=H
 env:=envOfC fN scope s.heap.objs.size f cd
 zn:=zn
 stack:=envOfC fN scope s.heap.objs.size f cd::zn
 ex:=[]
 calm:=true
 fn:=λ_=>true
 pn:=[]
 xe:=λe s'=>wpAny (model P w) (A.deeper (envOfC fN scope s.heap.objs.size f cd)) (leaving (envOfC fN scope s.heap.objs.size f cd) e) (λ_ s''=>CX zn H s E e s'') (λe' s''=>CX zn H s E e' s'') s'
def Ft{sc:Scope}{n:Nat}{x:Str}(h:sc.names.lookup x=⇑.cell):∃ c,(cellsFrom n sc.names []).lookup x=⇑c:=by
 have q:=cellsFrom_some sc.names n [] (.inl h);exact Option.isSome_iff_exists.mp q
theorem L7{CX:Of}{P:Program}{w:World}{K:Frag}{mg:Str->Option Value}{zt:Heap}{N ps:List Str}{fN:Str}{scope:Scope}{f:Addr}{cd:Value}{A:Around}{zn:List Env}{s s1:Shared}{H:Hp}{E:XK}{us:List Value}{vs:List V}
  (S:aF N ps scope) (hd:A.handled=none) (e0:IC P w K mg zt A zn s H) (hl:↑vs=↑ps) (r:b8 vs us)
  (x:InCallC s s.heap.objs.size (bindL (envOfC fN scope s.heap.objs.size f cd).kindOf (ps.zip us) λ_=>none) (cellsFrom (s.heap.objs.size+1) scope.names []) (bindC (envOfC fN scope s.heap.objs.size f cd).kindOf (ps.zip us) λ_=>none) s1) :
  Inv (ID CX P w K mg zt N fN scope f cd A zn s H E) [] (start N vs) H s1:=by
 have E6:↑ps<=↑N:=by have:=congrArg List.length S.pre;rw[gr]at this;lia
 let⟨h1,tk,rfl,hk⟩:=x.done;have ZL:∀ b:Addr,b∉(ID CX P w K mg zt N fN scope f cd A zn s H E).ex:=λb z=>absurd (show b∈([]:List Addr) from z) (by simp)
 exists ⟨e0.mod,S.kind,K,fK _,λy z c h1 h2=>?_,λy hy=>?_,λy c _ h=>?_,λ_=>hd,Around.frames_deeper e0.frames,.inr ⟨K⟩,λb z=>absurd z (ZL b),e0.bs,e0.UL,λb _ _=>ZL b,λb z=>absurd z (ZL b),e0.yR,e0.VW⟩,
  rfl,e0.bare,Un.kept hk,⟨_,x.toInCall.ns,λi y v h1 h2 h3=>?_⟩,λy c h=>⟨_,x.cell y c h⟩,e0.hok.fresh (fK _),λy c h=>?_,λp hp=>absurd (show p∈([]:List (Addr × Obj)) from hp) (by simp),e0.hok.kept hk
 ·exact name_of_addr x.apart (PySem.mem_of_lookup h1) (PySem.mem_of_lookup h2)
 ·have hy:scope.names.lookup y=⇑.cell\/scope.names.lookup y=⇑.free:=hy;rcases hy with hy|hy
  ·exact Ft hy
  ·exact absurd rfl (S.Wr _ (PySem.mem_of_lookup hy))
 ·exact gG (x.above y c (PySem.mem_of_lookup h))
 ·have hi:i<↑vs:=by
   unfold start at h2;by_cases hi:i<↑vs
   ·exact hi
   ·rw[List.getElem?_append_right (by simpa using hi)]at h2;rw[List.getElem?_replicate]at h2
    split at h2 <;> cases h2
  have ha:vs[i]?=⇑v:=by
   unfold start at h2;rw[yP (by simpa using hi),mY]at h2
   cases e:vs[i]? with
   | none=>rw[e]at h2;cases h2
   | some a=>rw[e]at h2;cases h2;rfl
  let⟨u,hu,rv⟩:=r.get ha
  have hp:ps[i]?=⇑y:=by
   rw[← S.pre,List.getElem?_take_of_lt ∅];exact h1
  have ndP:ps.Nodup:=by rw[← S.pre];exact S.nd.sublist (List.take_sublist _ _)
  exists u,rv;rcases S.par y (nJ hp) with k|k
  ·exact .inl ⟨k,Cq ndP hp hu k⟩
  ·let⟨c,e⟩:=Ft (n:=s.heap.objs.size+1) k;refine .inr ⟨.inl k,c,e,?_⟩;have q:=x.cell y c e;rw[Cr ndP hp hu (by show scope.names.lookup y≠_;rw[k];decide)]at q;exact q
 ·exact e0.hok.fresh (gG (x.above y c (PySem.mem_of_lookup h)))
 ·unfold start;show _=↑N;rw[cT,cB,List.length_replicate];lia
theorem ZM{CX:Of}{P:Program}{w:World}{K:Frag}{mg:Str->Option Value}{zt:Heap}{k:Nat}{f:Addr}{name fN:Str}{params:Arguments}{scope:Scope}{dV kV yv pm cU ct oc:Value}{an od:Option Addr}
  {NH:Array (Option Value)} {N ps:List Str} {sp:Sp} (lk:K.lookup f=some ⟨oc,od,.func (fnOf name fN params body scope dV kV yv pm an cU ct),NH⟩) (N4:codeIn K cU fN=true) (S:aF N ps scope)
  (len:∀ vs H Q E,sp vs H Q E->↑vs=↑ps)
  (Fv:∀ (A:Around) (zn:List Env) (s:Shared) (H:Hp) (vs:List V) (Q:VK) (E:XK),jf k (A.deeper (envOfC fN scope s.heap.objs.size f cU))->sp vs H Q E->
   ∃ t,Kx (ID CX P w K mg zt N fN scope f cU A zn s H E) body t/\t { nx:=λ_ H'=>Q .fT H',rt:=Q } (start N vs) H) :
  bq P w K mg zt CX (k+1) f (fnOf name fN params body scope dV kV yv pm an cU ct) ps sp:=by
 refine⟨len,λA zn s H args us vs Q E hr e0 hb r Ma=>?_⟩;have hl:=len _ _ _ _ Ma;have KX:K.In s.heap:=e0.mod.kin.keeps λb o e=>(e0.bs b o e).1;have lim:s.heap.NoLimit:=e0.mod.nolimit.keeps λb o e=>(e0.bs b o e).1
 have hkind:∀ y∈ps.zip us,scope.names.lookup y.1=⇑.local\/(scope.names.lookup y.1=⇑.cell/\((cellsFrom (s.heap.objs.size+1) scope.names []).lookup y.1).isSome=true):=λ⟨n,v⟩ hy=>by
  rcases S.par n (List.of_mem_zip hy).1 with q|q
  ·exact .inl q
  ·exact .inr ⟨q,cellsFrom_some _ _ _ (.inl q)⟩
 refine codeAny_call_function hr.depth (KX _ _ lk) rfl S.co S.gen rfl (PySem.W.codeRec_of KX N4) (hb _ _ _ _ ?_);refine wpAny_newFunctionEnv_cells S.kind hkind λenv he s1 x=>?_;subst he;refine⟨lim.keeps x.toInCall.keep,codeAny_func ?_⟩;let⟨t,ht,hq⟩:=Fv A zn s H vs Q E (hr.deeper _) Ma;have I:Inv (ID CX P w K mg zt N fN scope f cU A zn s H E) [] (start N vs) H s1:=L7 S hr.hd e0 hl r x;refine wpAny_mono (ht [] s1 (start N vs) H _ I hq) (λfl s' hs=>?_) λe s' hs=>hs;have iS:∀ {σ':St} {H':Hp} {v:V} {u:Value},Inv (ID CX P w K mg zt N fN scope f cU A zn s H E) [] σ' H' s'->RelV v u->Q v H'->CE zn P w H s Q u s' := λ{σ' H' v u} J rv q=>⟨v,H',J.os,J.bare,J.zt,J.hok,rv,q⟩
 cases fl with
 | ret u =>
  let⟨v,σ',H',J,rv,q⟩:=hs;exact iS J rv q
 | next =>
  let⟨σ',H',J,q⟩:=hs;exact iS (v:=V.fT) (u:=Value.none) J rfl q
 | brk =>
  let⟨_,_,_,q⟩:=hs;exact False.elim q
 | cont =>
  let⟨_,_,_,q⟩:=hs;exact False.elim q
end L2
namespace L2
open Spec Rows
section
variable {X:Cx} {x:Str} {p pos:Pos} {e:Expr} {es:List Expr} {t:TA} {id T:String} {r:List V->Hp->VK->Prop}
def tCB(r:List V->Hp->VK->Prop)(t:TA):TE:=fun σ H Q=>t σ H λvs H1=>r vs H1 Q
theorem bY(hc:jA X (.builtin id) r)(hg:Gl X x)(hm:X.mg x=none)(hv:bootBuiltins x=⇑(.builtin id))(ha:PA X (e::es) t)(hn:x≠"__name__":=by decide)(L5:(x == ("__debug__":Str))=false:=by decide)
  (he:starEach (e::es) X.env=(false,eval e X.env)::starEach es X.env:=by rfl) (E6:(backTo pos (starEach es X.env)).any (·.1)=false:=by rfl):PE X (.Call (.Name x p) (e::es) [] pos) (tCB r t):=by
 intro ao s σ H Q I h;refine wpAny_Call_Name_kw (wU I hg hm hv ?_ hn L5);exact PyProof.Rows.callWith_builtin1 (c9 (ha pos ao s σ H _ I h) λus s1 ⟨vs,H1,I1,r1,q1⟩=>hc ao s1 σ H1 vs us Q I1 r1 q1) he E6
theorem d9(hc:jA X (.type T) r)(hg:Gl X x)(hm:X.mg x=none)(hv:bootBuiltins x=⇑(.type T))(ha:PA X (e::es) t)(hn:x≠"__name__":=by decide)(L5:(x == ("__debug__":Str))=false:=by decide)
  (he:starEach (e::es) X.env=(false,eval e X.env)::starEach es X.env:=by rfl) (E6:(backTo pos (starEach es X.env)).any (·.1)=false:=by rfl):PE X (.Call (.Name x p) (e::es) [] pos) (tCB r t):=by
 intro ao s σ H Q I h;refine wpAny_Call_Name_kw (wU I hg hm hv ?_ hn L5);exact PyProof.Rows.callWith_type1 (c9 (ha pos ao s σ H _ I h) λus s1 ⟨vs,H1,I1,r1,q1⟩=>hc ao s1 σ H1 vs us Q I1 r1 q1) he E6
end
end L2
namespace HT
open Rows
section
variable {prog:Program} {w:World} {A:Around} {E:Value->Shared->Prop} {s:Shared}
def gC(n d:Nat):Option Int->Nat
 | none=>d
 | some v=>if v<0 then (v+(n:Int)).toNat else min v.toNat n
def KJ(n d k:Nat):gC n d (⇑(k:Int))=min k n:=by
 show (if (k:Int)<0 then ((k:Int)+(n:Int)).toNat else min (k:Int).toNat n)=min k n;rw[if_neg ∅,Int.toNat_natCast]
def Ws(n d:Nat)(hd:d<=n)(o:Option Int):gC n d o<=n:=by
 cases o with
 | none=>exact hd
 | some v =>
  show (if v<0 then (v+(n:Int)).toNat else min v.toNat n)<=n;by_cases hv:v<0
  ·rw[if_pos hv];lia
  ·rw[if_neg hv];exact Nat.min_le_right _ _
def KL(v:Int)(n d:Nat):(if v<0 then max (v+(n:Int)) 0 else min v (n:Int))=((gC n d (⇑v):Nat):Int):=by
 show (if v<0 then max (v+(n:Int)) 0 else min v (n:Int))=(((if v<0 then (v+(n:Int)).toNat else min v.toNat n):Nat):Int);by_cases hv:v<0
 ·simp only[if_pos hv];lia
 ·simp only[if_neg hv];lia
def IE(lo hi:Option Int)(n:Nat):Builtin.Slice.sliceAdjust lo hi 1 (n:Int)=(((gC n 0 lo:Nat):Int),((gC n n hi:Nat):Int)):=by
 have h1:¬ ((1:Int)<0):=by lia
 unfold Builtin.Slice.sliceAdjust;simp only[h1,if_false];refine Prod.ext ?_ ?_
 ·cases lo with
  | none=>rfl
  | some v=>exact KL v n 0
 ·cases hi with
  | none=>rfl
  | some v=>exact KL v n n
def IG(i j:Nat):Builtin.Slice.slicePlaces (i:Int) (j:Int) 1=j-i:=by
 unfold Builtin.Slice.slicePlaces;have h1:(1:Int) > 0:=by lia
 simp only[h1,if_true,Int.ediv_one]
 split <;> lia
def zS{v:Value}{o:Option Int}{Q:Option Int->Shared->Prop}(p:IsPart v o)(h:Q o s):wpAny (model prog w) A (Builtin.Slice.slicePartIndex v) Q E s:=by
 cases p with
 | none=>exact slicePart_none h
 | int i t=>exact slicePart_int h
theorem wZ{sl:Addr}{vl vu:Value}{lo hi:Option Int}{n:Nat}{Q:Int × Int × Nat->Shared->Prop}(hs:s.heap.IsSliceOf sl vl vu .none)(pl:IsPart vl lo)(pu:IsPart vu hi)
  (h:Q (((gC n 0 lo:Nat):Int),1,gC n n hi-gC n 0 lo) s):wpAny (model prog w) A (Builtin.Slice.sliceApplied ↥sl (pure (n:Int))) Q E s:=by
 let⟨os,hos,Wu,II⟩:=id hs;unfold Builtin.Slice.sliceApplied Builtin.Slice.sliceFields;refine wpAny_bind (wpAny_bind (wpAny_field hos II (x:=vl) rfl (wpAny_bind (wpAny_field hos II (x:=vu) rfl (wpAny_bind (wpAny_field hos II (x:=.none) rfl (wpAny_pure ?_)))))));refine wpAny_bind (slicePart_none ?_);show wpAny _ _ (if ((1:Int) == 0)=true then _ else _) _ _ s;rw[if_neg (by decide)];refine wpAny_bind (zS pl (wpAny_bind (zS pu (wpAny_bind (wpAny_pure ?_)))));show wpAny _ _ (match Builtin.Slice.sliceAdjust lo hi 1 (n:Int) with|(lo,hi)=>pure (lo,(1:Int),Builtin.Slice.slicePlaces lo hi 1)) _ _ s;rw[IE lo hi n];show wpAny _ _ (pure (((gC n 0 lo:Nat):Int),(1:Int),Builtin.Slice.slicePlaces ((gC n 0 lo:Nat):Int) ((gC n n hi:Nat):Int) 1)) _ _ s;rw[IG];exact wpAny_pure h
def Oj(xs:Array Value)(i k:Nat):((List.range k).filterMap λ(m:Nat)=>xs[((i:Int)+(m:Int)*1).toNat]?).toArray=((xs.toList.drop i).take k).toArray:=by
 have e:(λ(m:Nat)=>xs[((i:Int)+(m:Int)*1).toNat]?)=λm=>xs[i+m]?:=by
  funext m;have:((i:Int)+(m:Int)*1).toNat=i+m:=by lia
  rw[this]
 rw[e];have:=pick_run xs i k;rw[List.filterMap_map]at this;have e2:((λx=>xs[x]?) ∘ λx=>i+x)=λm=>xs[i+m]?:=rfl;rw[e2]at this;rw[this]
theorem vA{t sl:Addr}{items:Array Value}{vl vu:Value}{lo hi:Option Int}{Q:Value->Shared->Prop}(ht:IsTup s.heap t items)(hs:s.heap.IsSliceOf sl vl vu .none)(pl:IsPart vl lo)(pu:IsPart vu hi)
  (hw:¬ (gC items.size 0 lo=0/\gC items.size items.size hi=items.size))
  (h:Q ↥s.heap.objs.size { s with heap:=s.heap.push { cls:=.type "tuple",data:=.seq ((items.toList.drop (gC items.size 0 lo)).take (gC items.size items.size hi-gC items.size 0 lo)).toArray } })
  (hsz:items.size<=sizeLine):wpAny (model prog w) A (getItem ↥t ↥sl) Q E s:=by
 have KN:sizeOk (.seq ((items.toList.drop (gC items.size 0 lo)).take (gC items.size items.size hi-gC items.size 0 lo)).toArray):=by
  show ((items.toList.drop (gC items.size 0 lo)).take (gC items.size items.size hi-gC items.size 0 lo)).toArray.size<=sizeLine;rw[gP,gr,qH,Array.length_toList];lia
 have hj:gC items.size items.size hi<=items.size:=Ws _ _ (fK _) hi;let⟨os,hos,Wu,II⟩:=id hs;have hTs:s.TypeIs ↥sl "slice":=⟨os,hos,Wu⟩;unfold getItem
 try with_reducible refine wpAny_holding ?_
 first|refine wpAny_bind (wpAny_pure ?_)|skip
 refine wpAny_bind (wpAny_sequenceKey ht.typeIs (by decide) ?_);refine wpAny_bind (wpAny_callSpecial?_slot (name:=Str.ofString "__getitem__") ht.typeIs PyProof.Rows.slot_tuple_getitem (wpAny_call_entry PyProof.Rows.slot_tuple_getitem ht.typeIs entry_tuple_getitem ?_ (args_tuple_getitem _ _)));show wpAny _ _ (Builtin.Tuple.tupleItemsOf ↥t >>= _) _ _ s;refine wpAny_bind (tupleItemsOf_ ht ?_);refine wpAny_bind (wpAny_typeOf hTs ?_);rw[if_pos (by decide)];refine wpAny_bind (wZ hs pl pu ?_)
 have ZN:¬ ((((gC items.size 0 lo:Nat):Int) == 0&&(1:Int) == 1&&(gC items.size items.size hi-gC items.size 0 lo) == items.size)=true):=by
  intro q;rw[Bool.and_eq_true,Bool.and_eq_true]at q;have q1:((gC items.size 0 lo:Nat):Int)=0:=eq_of_beq q.1.1;have q2:gC items.size items.size hi-gC items.size 0 lo=items.size:=eq_of_beq q.2;exact hw ⟨by lia,by lia⟩
 show wpAny _ _ (if (((gC items.size 0 lo:Nat):Int) == 0&&(1:Int) == 1&&(gC items.size items.size hi-gC items.size 0 lo) == items.size)=true then _ else _) _ _ s;rw[if_neg ZN,Oj]
 first
  | exact wpAny_bind (m:=Builtin.Tuple.tupleExact _) (wpAny_newObj_type (wpAny_pure ⟨Y,wpAny_pure h⟩) KN)
  | exact wpAny_bind (m:=Builtin.Tuple.tupleExact _) (wpAny_newObj_type (wpAny_bind (wpAny_pure (wpAny_pure ⟨Y,wpAny_pure h⟩))) KN)
  | exact wpAny_bind (wpAny_bind (m:=Builtin.Tuple.tupleExact _) (wpAny_newObj_type (wpAny_pure (wpAny_pure ⟨Y,wpAny_pure h⟩)) KN))
  | exact wpAny_bind (wpAny_bind (m:=Builtin.Tuple.tupleExact _) (wpAny_newObj_type (wpAny_pure ⟨Y,wpAny_pure h⟩) KN))
end
end HT
namespace L2
open Spec Rows
abbrev TO:=St->Hp->(Option Int->Hp->Prop)->Prop
def PO(X:Cx)(e:Option Expr)(t:TO):Prop :=
 ∀ (ao:List (Addr × Obj)) (s:Shared) (σ:St) (H:Hp) (Q:Option Int->Hp->Prop),Inv X ao σ H s->t σ H Q->
  wpAny (model X.prog X.w) X.A (evalPart e X.env) (λu s'=>∃ o H',Inv X ao σ H' s'/\IsPart u o/\Q o H') X.xe s
def RQ:TO:=λ_ H Q=>Q none H
def ZO(t:TE):TO:=fun σ H Q=>t σ H λx H1=>isI x H1 Q
def intsAre_of{ns:List Int}:∀ {us:List Value},b8 (ns.map V.int) us->IntsAre us ns:=by
 induction ns with
 | nil=>intro us r;rw[List.map_nil]at r;cases r;exact .nil
 | cons n ns ih =>
  intro us r;rw[jy]at r
  cases r with
  | cons r1 r2 =>
   let⟨t,e⟩:=r1;subst e;exact .cons n t (ih r2)
section
variable {X:Cx} {e:Expr} {te:TE} {lo hi:Option Expr} {tl th:TO} {pos p2:Pos}
def lO:PO X none RQ:=by
 intro ao s σ H Q I h;rw[evalPart_none];exact wpAny_pure ⟨none,H,I,.none,h⟩
def iG(h:PE X e te):PO X (⇑e) (ZO te):=by
 intro ao s σ H Q I hw;rw[evalPart_some];refine c9 (h ao s σ H _ I hw) λu s1 Il=>?_;let⟨x,H1,I1,r1,q1⟩:=Il;let⟨i,rfl,q⟩:=q1;let⟨t,rfl⟩:=r1;exact⟨⇑i,H1,I1,.int i t,q⟩
def SlR(X:Cx)(r:V->Option Int->Option Int->Hp->VK->Prop):Prop :=
 ∀ (ao:List (Addr × Obj)) (s:Shared) (σ:St) (H:Hp) (x:V) (v vl vu:Value) (lo hi:Option Int) (sl:Addr) (Q:VK),Inv X ao σ H s->RelV x v->s.heap.IsSliceOf sl vl vu .none->IsPart vl lo->IsPart vu hi->r x lo hi H Q->
  ∃ T id,typeLookup (.type T) "__getitem__"=pure (⇑(.builtin id))/\s.TypeIs v T/\wpAny (model X.prog X.w) X.A (getItem v ↥sl) (EP X ao σ Q) X.xe s
def tSl(r:V->Option Int->Option Int->Hp->VK->Prop)(te:TE)(tl th:TO):TE:=fun σ H Q=>te σ H λx H1=>tl σ H1 λl H2=>th σ H2 λu H3=>r x l u H3 Q
def gZ{r:V->Option Int->Option Int->Hp->VK->Prop}(hr:SlR X r)(he:PE X e te)(hl:PO X lo tl)(hu:PO X hi th):PE X (.Subscript e (.Slice lo hi none p2) pos) (tSl r te tl th):=by
 intro ao s σ H Q I h;refine Subscript_ (c9 (he ao s σ H _ I h) λv s1 zI=>?_);let⟨x,H1,I1,r1,q1⟩:=zI;refine wpAny_Slice (c9 (hl ao s1 σ H1 _ I1 q1) λvl s2 ⟨l,H2,I2,pl,q2⟩=>c9 (hu ao s2 σ H2 _ I2 q2) λvu s3 Fj=>?_);let⟨u,H3,I3,pu,q3⟩:=Fj;rw[evalPart_none];refine wpAny_pure ?_;have I4:Inv X ao σ H3 { s3 with heap:=s3.heap.push { cls:=.type "slice",data:=.fields #[vl,vu,.none] } }:=I3.kept (t':=s3.toks) λb ob q=>Heap.get?_push_of_some _ q;let⟨T,id,hT,ht,hg⟩:=hr ao { s3 with heap:=s3.heap.push { cls:=.type "slice",data:=.fields #[vl,vu,.none] } } σ H3 x v vl vu l u s3.heap.objs.size Q I4 r1 (Heap.IsSliceOf.new ..) pl pu q3;show wpAny (model X.prog X.w) X.A (subscriptTail e (.Slice lo hi none p2) v ↥s3.heap.objs.size) (EP X ao σ Q) X.xe { s3 with heap:=s3.heap.push { cls:=.type "slice",data:=.fields #[vl,vu,.none] } };exact tail_any (ops:=[↥s3.heap.objs.size,v]) ht hT hg (by with_unfolding_all rfl)
def ki(xs:List V)(lo hi:Option Int):List V:=(xs.drop (HT.gC ↑xs 0 lo)).take (HT.gC ↑xs ↑xs hi-HT.gC ↑xs 0 lo)
def yx(xs:List V)(lo hi:Option Int):↑(ki xs lo hi)<=↑xs:=by
 unfold ki;rw[gr,qH];lia
def ad9(K:Frag):V->Option Int->Option Int->Hp->VK->Prop:=λx lo hi H Q=>∃ a xs,x=↥a/\cW K H a xs/\
 ¬ (HT.gC ↑xs 0 lo=0/\HT.gC ↑xs ↑xs hi=↑xs)/\∀ p,H p=none->Q ↥p (aN H p (.tup (ki xs lo hi)))
def Wv:SlR X (ad9 X.K):=by
 intro ao s σ H x v vl vu lo hi sl Q I rx hs pl pu h;let⟨a,xs,rfl,hx,hw,q⟩:=h;cases rx;let⟨aP,r,ht,hz⟩:=I.tuple hx;have dJ:aP.toArray.size=↑xs:=by rw[gP];exact r.length.symm
 exists "tuple",_,PyProof.Rows.slot_tuple_getitem.lookup,ht.typeIs;refine HT.vA ht hs pl pu (by rw[dJ];exact hw) ?_ (by rw[dJ];exact hz);rw[dJ];refine⟨↥s.heap.objs.size,_,I.laid (t':=s.toks) (o:=.tup (ki xs lo hi)) (λb ob q=>Heap.get?_push_of_some _ q) (fK _) ?_,rfl,q _ (I.hok.fresh (fK _))⟩;exact⟨Nat.le_trans (yx xs lo hi) hz,_,(r.drop (HT.gC ↑xs 0 lo)).take (HT.gC ↑xs ↑xs hi-HT.gC ↑xs 0 lo),IsTup.new _ _⟩
end
end L2
namespace L2
open Spec Rows
def KO(n:Nat)(i:Int):Option Nat:=if 0<=i then (if i<n then some i.toNat else none) else if -(n:Int)<=i then some (i+n).toNat else none
def qJ{α:Type}(xs:List α)(i:Int):Option α:=(KO ↑xs i).bind λj=>xs[j]?
def KP{n:Nat}{i:Int}{j:Nat}(h:KO n i=⇑j):seqIndex? i n=⇑j/\j<n/\-(n:Int)<=i/\i<n:=by
 unfold KO at h;by_cases h0:0<=i
 ·rw[if_pos h0]at h;by_cases h1:i<n
  ·rw[if_pos h1]at h;have e:i.toNat=j:=oB h;exact⟨by rw[seqIndex_of h0 h1,e],by lia,by lia,h1⟩
  ·rw[if_neg h1]at h;cases h
 ·rw[if_neg h0]at h;by_cases h1:-(n:Int)<=i
  ·rw[if_pos h1]at h;have e:(i+n).toNat=j:=oB h;exact⟨by rw[seqIndex_neg ∅ h1,e],by lia,h1,by lia⟩
  ·rw[if_neg h1]at h;cases h
def KQ{α:Type}{xs:List α}{i:Int}{v:α}(h:qJ xs i=⇑v):∃ j,seqIndex? i ↑xs=⇑j/\xs[j]?=⇑v/\j<↑xs/\-(↑xs:Int)<=i/\i<↑xs:=by
 unfold qJ at h
 cases e:KO ↑xs i with
 | none=>rw[e]at h;cases h
 | some j =>
  rw[e]at h;let⟨h1,h2,h3,h4⟩:=KP e;exact⟨j,h1,h,h2,h3,h4⟩
def dm{α:Type}{xs:List α}{j:Nat}{v:α}(h:xs[j]?=⇑v):qJ xs (j:Int)=⇑v:=by
 have hj:j<↑xs:=(List.getElem?_eq_some_iff.mp h).1
 have e:KO ↑xs (j:Int)=⇑j:=by
  unfold KO;rw[if_pos ∅,if_pos ∅];simp
 unfold qJ;rw[e];exact h
def Ol{α:Type}(xs:List α)(v:α):qJ (xs++[v]) (-1)=⇑v:=by
 have hl:↑(xs++[v])=↑xs+1:=by simp
 have e:KO ↑(xs++[v]) (-1)=some ↑xs:=by
  unfold KO;rw[hl,if_neg (by decide),if_pos ∅];congr 1;lia
 unfold qJ;rw[e];show (xs++[v])[↑xs]?=⇑v;simp
def KR(b:Expr):Prop:=∀ o i,subscripted b false o i=operate [o,i] (getItem o i)
def ZP(X:Cx)(r:R2):Prop :=
 ∀ (value vB:Expr) (ao:List (Addr × Obj)) (s:Shared) (σ:St) (H:Hp) (x y:V) (v u:Value) (Q:VK),Inv X ao σ H s->RelV x v->RelV y u->r x y H Q->
  subscripted vB false v u=operate [v,u] (getItem v u)->wpAny (model X.prog X.w) X.A (subscriptTail value vB v u) (EP X ao σ Q) X.xe s
def MtR(X:Cx)(id:String)(r:V->List V->Hp->VK->Prop):Prop :=
 ∀ (ao:List (Addr × Obj)) (s:Shared) (σ:St) (H:Hp) (x:V) (xs:List V) (v:Value) (us:List Value) (Q:VK),Inv X ao σ H s->RelV x v->b8 xs us->r x xs H Q->
  wpAny (model X.prog X.w) X.A (call (.builtin id) (v::us)) (EP X ao σ Q) X.xe s
section
variable {X:Cx} {a b:Expr} {ta tb:TE} {pos:Pos}
def ZQ{r:R2}(hr:ZP X r)(ha:PE X a ta)(hb:PE X b tb)(hs:KR b):PE X (.Subscript a b pos) (ZA r ta tb):=by
 intro ao s σ H Q I h;exact Subscript_ (Wj ha hb I h λv u s2 x y H2 I2 rx ry q=>hr a b ao s2 σ H2 x y v u Q I2 rx ry q (hs _ _))
inductive aea(K:Frag)(x y:V)(H:Hp)(Q:VK):Prop
 | mk (p:Addr) (xs:List V) (i:Int) (v:V) (_:x=↥p) (_:y=.int i) (_:bG K H p xs) (_:qJ xs i=⇑v) (_:Q v H)
inductive ZR(K:Frag)(x y:V)(H:Hp)(Q:VK):Prop
 | mk (p:Addr) (xs:List V) (i:Int) (v:V) (_:x=↥p) (_:y=.int i) (_:cW K H p xs) (_:qJ xs i=⇑v) (_:Q v H)
def bu:ZP X (aea X.K):=by
 intro value vB ao s σ H x y v u Q I rx ry h hs;let⟨p,xs,i,z,rfl,rfl,hq,he,q⟩:=h;cases rx;let⟨t,rfl⟩:=ry;let⟨aP,r,pl,hz⟩:=I.list hq;let⟨j,h1,h2,h3,h4,h5⟩:=KQ he;let⟨w,ew,iW⟩:=r.get h2;have hl:=↑r;have hn:=wX;have iS:EP X ao σ Q w s:=⟨z,H,I,iW,q⟩;by_cases h0:0<=i
 ·have hj:i.toNat=j:=by
   rw[seqIndex_of h0 h5]at h1;exact oB h1
  exact item_listR pl.isList h0 ∅ (by rw[hj];simpa using ew) iS hs
 ·have hj:(i+(aP.toArray.size:Int)).toNat=j:=by
   rw[seqIndex_neg ∅ h4]at h1;rw[gP,← hl];exact oB h1
  exact subscriptTail_builtinR (x:=w) pl.isList.typeIs slot_list_getitem.lookup
   (wpAny_getItem_list_neg (Q:=λr s'=>r=w/\EP X ao σ Q r s') pl.isList ∅ (by rw[gP] <;> lia) ∅ (by rw[hj];simpa using ew) ⟨rfl,iS⟩) hs
def aW:ZP X (ZR X.K):=by
 intro value vB ao s σ H x y v u Q I rx ry h hs;let⟨p,xs,i,z,rfl,rfl,hq,he,q⟩:=h;cases rx;let⟨t,rfl⟩:=ry;let⟨aP,r,pl,hz⟩:=I.tuple hq;let⟨j,h1,h2,h3,h4,h5⟩:=KQ he;let⟨w,ew,iW⟩:=r.get h2;have hl:=↑r;have hn:=wX;have iS:EP X ao σ Q w s:=⟨z,H,I,iW,q⟩;exact subscriptTail_builtinR (x:=w) pl.typeIs slot_tuple_getitem.lookup (getItem_tuple (j:=j) (Q:=λr s'=>r=w/\EP X ao σ Q r s') pl ∅ ∅ (by rw[gP,← hl];exact h1) (by simpa using ew) ⟨rfl,iS⟩) hs
def IJ(aP:List Value)(n j:Nat)(u:Value):Obj.mapSeq (·.setIfInBounds j u) { cls:=.type "list",data:=.seq aP.toArray n }={ cls:=.type "list",data:=.seq (aP.set j u).toArray n }:=by
 simp[Obj.mapSeq]
theorem Inv.lst{ao:List (Addr × Obj)}{σ:St}{H:Hp}{s:Shared}{p:Addr}{xs:List V}(I:Inv X ao σ H s)(h:H p=⇑(.lst xs)) :
  ∃ (aP:List Value) (n:Nat),b8 xs aP/\s.heap.get? p=some { cls:=.type "list",data:=.seq aP.toArray n }/\↑xs<=sizeLine:=by
 let⟨z,aP,n,r,e⟩:=I.hok p _ h;exact⟨aP,n,r,e,z⟩
theorem Inv.Ww{σ:St}{H:Hp}{s:Shared}{p:Addr}{xs ys:List V}{aP its':List Value}{n n':Nat}{f:Obj->Obj}(I:Inv X ao σ H s)(h:H p=⇑(.lst xs))
  (ho:s.heap.get? p=some { cls:=.type "list",data:=.seq aP.toArray n }) (hf:f { cls:=.type "list",data:=.seq aP.toArray n }={ cls:=.type "list",data:=.seq its'.toArray n' }) (r:b8 ys its') (hz:↑ys<=sizeLine) (t:Nat) :
  Inv X ao σ (aN H p (.lst ys)) { s with heap:=s.heap.update p f,toks:=t }:=by
 have e:(s.heap.update p f).get? p=some { cls:=.type "list",data:=.seq its'.toArray n' }:=by
  rw[Heap.get?_update_self f ho (by rw[hf] <;> rfl),hf]
 refine I.write (x:=p) (e:=p) (by rw[h];trivial) (.inl rfl) (λb u hb q=>(Heap.get?_update_other _ _ (Ne.symm hb)).trans q) ⟨_,e⟩ ?_;exact⟨hz,its',n',r,e⟩
inductive ZS(o i v:V)(H:Hp)(Q:Hp->Prop):Prop
 | mk (p:Addr) (xs:List V) (k:Int) (j:Nat) (_:o=↥p) (_:i=.int k) (_:H p=⇑(.lst xs)) (_:KO ↑xs k=⇑j) (_:Q (aN H p (.lst (xs.set j v))))
def jB:Zv X ZS:=by
 intro ao s σ H o i v ov iv u Q I ro ri rv h;let⟨p,xs,k,j,rfl,rfl,hp,hj,q⟩:=h;cases ro;let⟨t,rfl⟩:=ri;let⟨aP,n,r,ho,hz⟩:=I.lst hp;let⟨h1,h2,h3,h4⟩:=KP hj;have hl:=↑r;have hn:=wX;have I':Inv X ao σ (aN H p (.lst (xs.set j v))) { s with heap:=s.heap.update p (Obj.mapSeq (·.setIfInBounds j u)) } := I.Ww hp ho (IJ aP n j u) (r.set rv j) (by rw[List.length_set];exact hz) s.toks;by_cases h0:0<=k
 ·have hk:k.toNat=j:=by
   rw[seqIndex_of h0 h4]at h1;exact oB h1
  exact PySem.W.ki_setAt ho h0 ∅ (by rw[gP,← hl];exact h4) (by rw[hk];exact⟨_,I',q⟩)
 ·have hk:(k+(aP.toArray.size:Int)).toNat=j:=by
   rw[seqIndex_neg ∅ h3]at h1;rw[gP,← hl];exact oB h1
  exact PySem.W.ki_setBack ho ∅ (by rw[gP,← hl];exact h3) ∅ (by rw[hk];exact⟨_,I',q⟩)
def vC(lo hi:Option Int)(n:Nat):(sliceBounds lo hi none n).1=((HT.gC n 0 lo:Nat):Int)/\(sliceBounds lo hi none n).2.1=((HT.gC n n hi:Nat):Int)/\(sliceBounds lo hi none n).2.2=1:=by
 refine⟨?_,?_,rfl⟩
 ·cases lo with
  | none=>simp[sliceBounds,HT.gC]
  | some i =>
   simp only[sliceBounds,HT.gC,Option.getD_none,show (1:Int) > 0 by decide,if_true];by_cases h:i<0
   ·simp only[h,if_true] <;> lia
   ·simp only[h,if_false] <;> lia
 ·cases hi with
  | none=>simp[sliceBounds,HT.gC]
  | some i =>
   simp only[sliceBounds,HT.gC,Option.getD_none,show (1:Int) > 0 by decide,if_true];by_cases h:i<0
   ·simp only[h,if_true] <;> lia
   ·simp only[h,if_false] <;> lia
def Bt(aP:List Value)(lo hi:Option Int):slicePick aP.toArray lo hi none=((aP.drop (HT.gC ↑aP 0 lo)).take (HT.gC ↑aP ↑aP hi-HT.gC ↑aP 0 lo)).toArray:=by
 let⟨h1,h2,h3⟩:=vC lo hi aP.toArray.size;unfold slicePick;rw[h1,h2,h3]
 simp only[sliceRange_one,pick_run,gP] <;> rfl
inductive ZT(K:Frag)(x:V)(lo hi:Option Int)(H:Hp)(Q:VK):Prop
 | mk (a:Addr) (xs:List V) (_:x=↥a) (_:bG K H a xs) (_:∀ p,H p=none->Q ↥p (aN H p (.lst (ki xs lo hi)))):ZT K x lo hi H Q
def lP:SlR X (ZT X.K):=by
 intro ao s σ H x v vl vu lo hi sl Q I rx hs pl pu h;let⟨a,xs,rfl,hx,q⟩:=h;cases rx;let⟨aP,r,ht,hz⟩:=I.list hx;have dJ:=↑r;exists "list",_,slot_list_getitem.lookup,ht.isList.typeIs
 refine wpAny_getItem_list_slice ht.isList hs pl pu .none (by simp) ?_ (by rw[gP] <;> lia)
 rw[Bt,← dJ];refine⟨↥s.heap.objs.size,_,I.laid (t':=s.toks) (o:=.lst (ki xs lo hi)) (λb ob q=>Heap.get?_push_of_some _ q) (fK _) ?_,rfl,q _ (I.hok.fresh (fK _))⟩;exact⟨Nat.le_trans (yx xs lo hi) hz,_,0,(r.drop (HT.gC ↑xs 0 lo)).take (HT.gC ↑xs ↑xs hi-HT.gC ↑xs 0 lo),Heap.get?_push_size _ rfl⟩
def vD:V->Bool
 | .fT=>true
 | .bl _=>true
 | .int _=>true
 | .str _=>true
 | _=>false
def US:V->V->Bool
 | .fT,.fT=>true
 | .bl a,.bl b=>a == b
 | .bl a,.int b=>(if a then 1 else 0) == b
 | .int a,.bl b=>a == (if b then 1 else 0)
 | .int a,.int b=>a == b
 | .str a,.str b=>a == b
 | _,_=>false
def Wx{A:Around}{s:Shared}{y x:V}{u v:Value}(ry:RelV y u)(rx:RelV x v)(fy:vD y=true)(fx:vD x=true):SeqAt.EqAt A s u v (US y x):=by
 cases y with
 | fT =>
  cases ry
  cases x with
  | fT=>cases rx;exact SeqAt.EqAt.same _
  | bl b=>cases rx;exact SeqAt.EqAt.none_bool b
  | int b=>let⟨t,rfl⟩:=rx;exact SeqAt.EqAt.none_int b t
  | str b=>let⟨t,rfl⟩:=rx;exact SeqAt.EqAt.none_str b t
  | _=>exact absurd (show false=true from fx) gF
 | bl a =>
  cases ry
  cases x with
  | fT=>cases rx;exact SeqAt.EqAt.bool_none a
  | bl b=>cases rx;exact SeqAt.EqAt.bool_bool a b
  | int b=>let⟨t,rfl⟩:=rx;exact SeqAt.EqAt.bool_int a b t
  | str b=>let⟨t,rfl⟩:=rx;exact SeqAt.EqAt.bool_str a b t
  | _=>exact absurd (show false=true from fx) gF
 | int a =>
  let⟨t',rfl⟩:=ry
  cases x with
  | fT=>cases rx;exact SeqAt.EqAt.int_none a t'
  | bl b=>cases rx;exact SeqAt.EqAt.int_bool a t' b
  | int b=>let⟨t,rfl⟩:=rx;exact SeqAt.EqAt.int_int a t' b t
  | str b=>let⟨t,rfl⟩:=rx;exact SeqAt.EqAt.int_str a t' b t
  | _=>exact absurd (show false=true from fx) gF
 | str a =>
  let⟨t',rfl⟩:=ry
  cases x with
  | fT=>cases rx;exact SeqAt.EqAt.str_none a t'
  | bl b=>cases rx;exact SeqAt.EqAt.str_bool a t' b
  | int b=>let⟨t,rfl⟩:=rx;exact SeqAt.EqAt.str_int a t' b t
  | str b=>let⟨t,rfl⟩:=rx;exact SeqAt.EqAt.str_str a t' b t
  | _=>exact absurd (show false=true from fx) gF
 | _=>exact absurd (show false=true from fy) gF
def IL(x:V)(u:Value):Bool:=match u with
 | .none=>US .fT x
 | .bool b=>US (.bl b) x
 | .int i _=>US (.int i) x
 | .str z _=>US (.str z) x
 | _=>false
def Om{x y:V}{u:Value}(r:RelV y u)(f:vD y=true):IL x u=US y x:=by
 cases y with
 | fT=>cases r;rfl
 | bl b=>cases r;rfl
 | int i=>let⟨t,rfl⟩:=r;rfl
 | str z=>let⟨t,rfl⟩:=r;rfl
 | _=>exact absurd (show false=true from f) gF
theorem vE{x:V}:∀ {xs:List V} {us:List Value},b8 xs us->xs.all vD=true->us.any (IL x)=xs.any λy=>US y x
 | _,_,.nil,_=>rfl
 | y::xs,u::us,.cons r t,f=>by
  rw[List.all_cons,Bool.and_eq_true]at f;rw[List.any_cons,List.any_cons,Om r f.1,vE t f.2]
theorem qX{A:Around}{s:Shared}{x:V}{v:Value}(rx:RelV x v)(fx:vD x=true):∀ {xs:List V} {us:List Value},b8 xs us->xs.all vD=true->∀ u∈us,SeqAt.EqAt A s u v (IL x u)
 | _,_,.nil,_=>λu hu=>by cases hu
 | y::xs,u::us,.cons r t,f=>λu' hu=>by
  rw[List.all_cons,Bool.and_eq_true]at f;rcases List.mem_cons.mp hu with rfl|hu
  ·rw[Om r f.1];exact Wx r rx f.1 fx
  ·exact qX rx fx t f.2 u' hu
def inV(x:V)(xs:List V):Bool:=xs.any λy=>US y x
inductive Wy(K:Frag)(xs:List V)(H:Hp)(Q:VK):Prop
 | mk (p:Addr) (ys:List V) (_:xs=[↥p]) (_:bG K H p ys\/cW K H p ys) (_:Q (.int ↑ys) H):Wy K xs H Q
inductive ZU(K:Frag)(xs:List V)(H:Hp)(Q:VK):Prop
 | mk (p:Addr) (ys:List V) (_:xs=[↥p]) (_:bG K H p ys\/cW K H p ys) (_:∀ l,H l=none->Q ↥l (aN H l (.lst ys)))
def rIn(K:Frag)(neg:Bool):R2:=λx y H Q=>∃ p xs,y=↥p/\(bG K H p xs\/cW K H p xs)/\vD x=true/\xs.all vD=true/\Q (.bl (if neg then !inV x xs else inV x xs)) H
def Cs:uA X (compareOp .In) (rIn X.K false):=by
 intro ao s σ H x y v u Q I rx ry h;let⟨p,xs,rfl,hq,fx,fs,q⟩:=h;cases ry;rcases hq with hq|hq
 ·let⟨aP,r,pl,hz⟩:=I.list hq;refine SeqAt.in_listAt (IL x) pl.isList (λw hw=>qX rx fx r fs w (by simpa using hw)) ⟨.bl _,H,I,rfl,?_⟩;rw[show aP.toArray.any (IL x)=aP.any (IL x) by simp,vE r fs];exact q
 ·let⟨aP,r,pl,hz⟩:=I.tuple hq;refine SeqAt.in_tupleAt (IL x) pl (λw hw=>qX rx fx r fs w (by simpa using hw)) ⟨.bl _,H,I,rfl,?_⟩;rw[show aP.toArray.any (IL x)=aP.any (IL x) by simp,vE r fs];exact q
def vF:uA X (compareOp .NotIn) (rIn X.K true):=by
 intro ao s σ H x y v u Q I rx ry h;let⟨p,xs,rfl,hq,fx,fs,q⟩:=h;cases ry;rcases hq with hq|hq
 ·let⟨aP,r,pl,hz⟩:=I.list hq;refine SeqAt.notIn_listAt (IL x) pl.isList (λw hw=>qX rx fx r fs w (by simpa using hw)) ⟨.bl _,H,I,rfl,?_⟩;rw[show aP.toArray.any (IL x)=aP.any (IL x) by simp,vE r fs];exact q
 ·let⟨aP,r,pl,hz⟩:=I.tuple hq;refine SeqAt.notIn_tupleAt (IL x) pl (λw hw=>qX rx fx r fs w (by simpa using hw)) ⟨.bl _,H,I,rfl,?_⟩;rw[show aP.toArray.any (IL x)=aP.any (IL x) by simp,vE r fs];exact q
def DC:jA X (.builtin "len") (Wy X.K):=by
 intro ao s σ H xs us Q I r h;let⟨p,ys,rfl,hq,q⟩:=h;let⟨u,rfl,rx⟩:=vals1 r;cases rx;have hn:=wX;rcases hq with hq|hq
 ·let⟨aP,r',pl,hz⟩:=I.list hq;have dJ:=↑r'
  exact Calls.call_len_list pl.isList (by simp only[gP] <;> lia) ⟨.int ↑ys,H,I.tok _,⟨s.toks+1,by rw[gP,dJ]⟩,q⟩
 ·let⟨aP,r',pl,hz⟩:=I.tuple hq;have dJ:=↑r'
  exact len_tuple pl (by simp only[gP] <;> lia) ⟨.int ↑ys,H,I.tok _,⟨s.toks+1,by rw[gP,dJ]⟩,q⟩
def DE:jA X (.builtin "len") (λxs H Q=>∃ z,xs=[.str z]/\↑z<=sizeLine/\Q (.int ↑z) H):=by
 intro ao s σ H xs us Q I r h;let⟨z,rfl,hz,q⟩:=h;let⟨u,rfl,t,rfl⟩:=vals1 r;have hn:=wX;exact len_str ∅ ⟨.int ↑z,H,I.tok _,⟨Y⟩,q⟩
def eX:jA X (.type "list") (ZU X.K):=by
 intro ao s σ H xs us Q I r h;let⟨p,ys,rfl,hq,q⟩:=h;let⟨u,rfl,rx⟩:=vals1 r;cases rx
 have iS:∀ (aP:List Value),b8 ys aP->↑ys<=sizeLine->∀ (h':Heap) (c':Nat),(∀ b o',s.heap.get? b=⇑o'->h'.get? b=⇑o')->
   h'.get? s.heap.objs.size=some { cls:=.type "list",dict:=none,data:=.seq aP.toArray c',slots:=#[] }->EP X ao σ Q ↥s.heap.objs.size { s with heap:=h' }:=λaP r' hz h' c' kp e =>
  ⟨↥s.heap.objs.size,_,I.laid (t':=s.toks) kp (fK _) (show fC X.prog X.w _ h' _ (.lst ys) from ⟨hz,aP,c',r',e⟩),rfl,q _ (I.hok.fresh (fK _))⟩
 rcases hq with hq|hq
 ·let⟨aP,r',pl,hz⟩:=I.list hq;have dJ:=↑r';let⟨o,ho,hc,n,hd⟩:=pl.isList
  exact call_list_seq p (.inl rfl) ho hc hd (λh' c' kp e=>iS aP r' hz h' c' kp e) (by simp only[gP] <;> lia)
 ·let⟨aP,r',pl,hz⟩:=I.tuple hq;have dJ:=↑r';let⟨o,ho,hc,n,hd⟩:=pl
  exact call_list_seq p (.inr rfl) ho hc hd (λh' c' kp e=>iS aP r' hz h' c' kp e) (by simp only[gP] <;> lia)
def tyV(K:Frag)(T:String)(x:V)(H:Hp):Prop:=match x with
 | .str _=>T="str"
 | .int _=>T="int"
 | .ref p=>(T="list"/\∃ xs,bG K H p xs)\/(T="tuple"/\∃ o,K.lookup p=⇑o/\o.cls=.type "tuple"/\o.dict=none)\/
   (T="dict"/\((∃ kvs,H p=⇑(.dK kvs))\/∃ kvs,H p=⇑(.dT kvs)))\/(T="set"/\∃ S n,H p=⇑(.set S n))
 | _=>False
theorem Oo{σ:St}{H:Hp}{s:Shared}{T:String}{x:V}{v:Value}(I:Inv X ao σ H s)(r:RelV x v)(ty:tyV X.K T x H) :
  s.TypeIs v T/\∀ a,v=↥a->∃ ob,s.heap.get? a=⇑ob/\ob.dict=none:=by
 cases x with
 | str z =>
  let⟨t,rfl⟩:=r;cases (show T="str" from ty);exact⟨typeIs_str s z t,λ_ e=>nomatch e⟩
 | int i =>
  let⟨t,rfl⟩:=r;cases (show T="int" from ty);exact⟨typeIs_int s i t,λ_ e=>nomatch e⟩
 | ref p =>
  cases r;rcases ty with ⟨rfl,xs,hq⟩|⟨rfl,o,hk,hc,hd⟩|⟨rfl,hk⟩|⟨rfl,S,n,hk⟩
  ·let⟨aP,_,pl,_⟩:=I.list hq;refine⟨pl.isList.typeIs,λa e=>?_⟩;cases e;let⟨o,n,e,c,hd,_⟩:=pl;exact⟨o,e,hd⟩
  ·refine⟨⟨o,I.yq p o hk,hc⟩,λa e=>?_⟩;cases e;exact⟨o,I.yq _ o hk,hd⟩
  ·have z:∃ o,s.heap.get? p=⇑o/\o.ExactDict:=by
    rcases hk with ⟨kvs,hk⟩|⟨kvs,hk⟩
    ·let⟨_,_,_,_,o,_,_,e,ex,_⟩:=I.hok p _ hk;exact⟨o,e,ex⟩
    ·let⟨_,_,_,_,o,_,_,e,ex,_⟩:=I.hok p _ hk;exact⟨o,e,ex⟩
   let⟨o,e,ex⟩:=z;refine⟨⟨o,e,ex.1⟩,λa e2=>?_⟩;cases e2;exact⟨o,e,ex.2.1⟩
  ·let⟨o,_,_,_,e,ex,_⟩:=I.hok p _ hk;refine⟨⟨o,e,ex.1⟩,λa e2=>?_⟩;cases e2;exact⟨o,e,ex.2.1⟩
 | _=>exact False.elim ty
def aed(K:Frag)(T:String)(r:V->List V->Hp->VK->Prop)(to:TE):TE:=fun σ H Q=>to σ H λx H1=>tyV K T x H1/\r x [] H1 Q
def tBM(K:Frag)(T:String)(r:V->List V->Hp->VK->Prop)(to:TE)(t:TA):TE:=fun σ H Q=>to σ H λx H1=>tyV K T x H1/\t σ H1 λxs H2=>r x xs H2 Q
variable {o e:Expr} {es:List Expr} {to:TE} {t:TA} {name:Str} {jX oJ:Pos} {T id:String} {r:V->List V->Hp->VK->Prop}
theorem IM(pa:PlainAttrs T)(slot:Slot T name id)(hty:typeOf (.builtin id)=pure (.type "method_descriptor"))(hm:MtR X id r)(ho:PE X o to)
  (Oq:attributeBase o name X.env (eval o X.env)=eval o X.env:=by rfl) (Ot:(jX.endLine == oJ.line)=true:=by rfl):PE X (.Call (.Attribute o name jX) [] [] oJ) (aed X.K T r to):=by
 intro ao s σ H Q I h;refine wpAny_Call_method0_late Oq Ot (c9 (ho ao s σ H _ I h) λv s1 Dy=>?_);let⟨x,H1,I1,r1,ty,q1⟩:=Dy;let⟨h1,h2⟩:=Oo I1 r1 ty;exact⟨T,id,pa,slot,hty,h1,h2,Calls.callWith_builtin rfl (PySem.evalArgs_none (hm ao s1 σ H1 x [] v [] Q I1 r1 .nil q1))⟩
theorem dQ(pa:PlainAttrs T)(slot:Slot T name id)(hty:typeOf (.builtin id)=pure (.type "method_descriptor"))(hm:MtR X id r)(ho:PE X o to)(ha:PA X (e::es) t)
  (Oq:attributeBase o name X.env (eval o X.env)=eval o X.env:=by rfl)
  (aef:((backTo oJ (starEach (e::es) X.env)).all (λx=>!x.1)&&(backToKw oJ (keywordEach [] X.env)).all (λx=>x.1.isSome)
   && decide (↑(e::es)+↑([]:List Keyword)+(if ([]:List Keyword).isEmpty then 0 else 1)<30))=true:=by rfl)
  (Ot:(jX.endLine == oJ.line)=true:=by rfl) (hs:starEach (e::es) X.env=(false,eval e X.env)::starEach es X.env:=by rfl) (Wz:(backTo oJ (starEach es X.env)).any (·.1)=false:=by rfl) :
  PE X (.Call (.Attribute o name jX) (e::es) [] oJ) (tBM X.K T r to t):=by
 intro ao s σ H Q I h;refine wpAny_Call_method_late Oq aef Ot rfl (c9 (ho ao s σ H _ I h) λv s1 Ij=>?_);let⟨x,H1,I1,r1,ty,q1⟩:=Ij;let⟨h1,h2⟩:=Oo I1 r1 ty;exists T,id,pa,slot,hty,h1,h2;have hA:=ha oJ ao s1 σ H1 _ I1 q1;rw[hs]at hA ⊢
 refine Calls.callWith_builtin (by show (false || (backTo oJ (starEach es X.env)).any (·.1))=false;rw[Wz] <;> rfl) (Calls.evalArgs_plain ?_)
 exact c9 hA λus s2 ⟨vs,H2,I2,r2,q2⟩=>hm ao s2 σ H2 x vs v us Q I2 r1 r2 q2
end
end L2
namespace L2
open Spec Rows
def WA(X:Cx)(id:String)(r:V->List V->Hp->VK->Prop):Prop :=
 ∀ (ao:List (Addr × Obj)) (s:Shared) (σ:St) (H:Hp) (x:V) (xs:List V) (v:Value) (us:List Value) (Q:VK),Inv X ao σ H s->RelV x v->b8 xs us->r x xs H Q->
  wpAny (model X.prog X.w) X.A (call (.builtin id) (v::us)) (EP X ao σ Q) X.xe s
def b8.one{x:V}{us:List Value}(h:b8 [x] us):∃ u,us=[u]/\RelV x u:=by
 cases h with
 | cons r t=>cases t;exact⟨Y,r⟩
def b8.two{x y:V}{us:List Value}(h:b8 [x,y] us):∃ u v,us=[u,v]/\RelV x u/\RelV y v:=by
 cases h with
 | cons r t =>
  let⟨_,rfl,q⟩:=b8.one t;exact⟨E,rfl,r,q⟩
theorem b8.zero:∀ {us:List Value},b8 [] us->us=[]
 | _,.nil=>rfl
def b8.dropLast{xs:List V}{us:List Value}(h:b8 xs us):b8 xs.dropLast us.dropLast:=by
 induction h with
 | nil=>exact .nil
 | cons r t ih =>
  cases t with
  | nil=>exact .nil
  | cons q t'=>exact .cons r ih
theorem b8.eraseIdx:∀ {xs:List V} {us:List Value} (i:Nat),b8 xs us->b8 (xs.eraseIdx i) (us.eraseIdx i)
 | _,_,_,.nil=>.nil
 | _,_,0,.cons _ t=>t
 | _,_,i+1,.cons r t=>.cons r (b8.eraseIdx i t)
theorem b8.rep{xs:List V}{us:List Value}(h:b8 xs us):∀ k:Nat,b8 (List.replicate k xs).flatten (List.replicate k us).flatten
 | 0=>.nil
 | k+1=>by
  rw[List.replicate_succ,List.replicate_succ,List.flatten_cons,List.flatten_cons];exact b8.append h (b8.rep h k)
def IP{α:Type}(l:List α):l.eraseIdx (↑l-1)=l.dropLast:=by
 induction l with
 | nil=>rfl
 | cons a r ih =>
  cases r with
  | nil=>rfl
  | cons b r =>
   have e:↑(a::b::r)-1=(↑(b::r)-1)+1:=by
    have h1:↑(a::b::r)=↑r+2:=rfl;have h2:↑(b::r)=↑r+1:=rfl;lia
   rw[e,List.eraseIdx_cons_succ,ih]
   all_goals rfl
theorem Ct{α:Type}:∀ (l:List α) (i:Nat),↑(l.eraseIdx i)<=↑l
 | [],_=>fK _
 | _::_,0=>Nat.le_succ _
 | _::r,i+1=>Nat.succ_le_succ (Ct r i)
theorem foldl_rep(aP:List Value):∀ (k:Nat) (acc:List Value),
  List.foldl (λx1 x2=>x1++x2) acc.toArray (List.replicate k aP.toArray)=(acc++(List.replicate k aP).flatten).toArray
 | 0,acc=>by simp
 | k+1,acc=>by
  have e:acc.toArray++aP.toArray=(acc++aP).toArray:=by simp
  have e2:(acc++aP)++(List.replicate k aP).flatten=acc++(List.replicate (k+1) aP).flatten:=by
   rw[List.replicate_succ,List.flatten_cons,m8]
  rw[← e2,← foldl_rep aP k (acc++aP),← e,List.replicate_succ,mh]
section
variable {X:Cx} {ao:List (Addr × Obj)} {σ:St} {H:Hp} {s:Shared} {l b:Addr} {xs ys zs:List V}
theorem Inv.Ou{aP its':List Value}{n:Nat}{f:Array Value->Array Value}{t':Nat}(I:Inv X ao σ H s)(hH:H l=⇑(.lst xs))
  (e:s.heap.get? l=some { cls:=.type "list",data:=.seq aP.toArray n }) (hf:f aP.toArray=its'.toArray) (hv:b8 ys its') (hz:↑ys<=sizeLine) :
  Inv X ao σ (aN H l (.lst ys)) { s with heap:=s.heap.update l (Obj.mapSeq f),toks:=t' }:=by
 have q:=PySem.IsL.update e f;rw[hf]at q;refine I.write (x:=l) (e:=l) (by rw[hH];exact trivial) (.inl rfl) (λb' u hb hu=>(Heap.get?_update_other s.heap (Obj.mapSeq f) (Ne.symm hb)).trans hu) ⟨_,q⟩ ?_;exact⟨hz,its',_,hv,q⟩
theorem Inv.RT{aP:List Value}{t':Nat}(I:Inv X ao σ H s)(hv:b8 ys aP)(hz:↑ys<=sizeLine) :
  Inv X ao σ (aN H s.heap.objs.size (.lst ys)) { s with heap:=s.heap.push { cls:=.type "list",data:=.seq aP.toArray },toks:=t' } :=
 I.laid (λ_ _ q=>Heap.get?_push_of_some _ q) (fK _) ⟨hz,aP,0,hv,Heap.get?_push_size _ rfl⟩
theorem Inv.fresh(I:Inv X ao σ H s):H s.heap.objs.size=none:=I.hok.fresh (fK _)
def Inv.zT(I:Inv X ao σ H s)(hH:H l=⇑(.lst xs)):↑xs<=sizeLine/\∃ (aP:List Value) (n:Nat),b8 xs aP/\↑xs=↑aP/\s.heap.get? l=some { cls:=.type "list",data:=.seq aP.toArray n }:=by
 let⟨z,aP,n,r,e⟩:=I.hok l _ hH;exact⟨z,aP,n,r,↑r,e⟩
def zU{n:Nat}(h:n<=sizeLine):Builtin.List.listTooLong n=false:=by
 unfold Builtin.List.listTooLong;exact decide_eq_false ∅
end
section
variable {X:Cx}
inductive RU(x:V)(vs:List V)(H:Hp)(Q:VK):Prop
 | mk (l:Addr) (xs:List V) (y:V) (_:x=↥l) (_:vs=[y]) (_:H l=⇑(.lst xs)) (_:↑xs<sizeLine) (_:Q .fT (aN H l (.lst (xs++[y]))))
def bS:WA X "list.append" RU:=by
 intro ao s σ H x vs v us Q I rx rv h;let⟨l,xs,y,rfl,rfl,hH,hz,q⟩:=h;cases rx;let⟨u,rfl,ru⟩:=rv.one;let⟨z,aP,n,r,hl,e⟩:=I.zT hH;refine call_meets F.slot_list_append ⟨_,e,rfl⟩ F.entry_list_append (F.args_list_append_2 _ _) (PySem.list_append l aP.toArray n u (by rw[gP];lia)) ⟨e,?_⟩;refine⟨.fT,_,I.Ou (its':=aP++[u]) hH e (by simp) (r.append (.cons ru .nil)) ?_,rfl,q⟩;rw[cT,gV];lia
inductive RV(x:V)(vs:List V)(H:Hp)(Q:VK):Prop
 | mk (l b:Addr) (xs zs:List V) (_:x=↥l) (_:vs=[↥b]) (_:H l=⇑(.lst xs)) (_:H b=⇑(.lst zs)) (_:↑xs+↑zs<=sizeLine) (_:Q .fT (aN H l (.lst (xs++zs))))
def jY:WA X "list.extend" RV:=by
 intro ao s σ H x vs v us Q I rx rv h;let⟨l,b,xs,zs,rfl,rfl,hH,hB,hz,q⟩:=h;cases rx;let⟨u,rfl,ru⟩:=rv.one;cases ru;let⟨z,aP,n,r,hl,e⟩:=I.zT hH;let⟨z2,its2,n2,r2,Bu,e2⟩:=I.zT hB;have hsz:aP.toArray.size+its2.toArray.size<=sizeLine:=by rw[gP,gP];lia
 have Fw:¬ (!aP.toArray.isEmpty&&Builtin.List.listTooLong (aP.toArray.size+its2.toArray.size))=true:=by
  rw[zU hsz,Bool.and_false];exact gF
 refine call_meets F.slot_list_extend ⟨_,e,rfl⟩ F.entry_list_extend (F.args_list_extend_2 _ _) (AutoSeq1.list_extend_list_list_0 l aP.toArray n b its2.toArray n2 Fw (by rw[gP];lia) ∅) ⟨e,e2,?_⟩;refine⟨.fT,_,I.Ou (its':=aP++its2) hH e (by simp) (r.append r2) ?_,rfl,q⟩;rw[cT];lia
def aeg:V->List V->Hp->VK->Prop:=λx vs H Q=>∃ l xs y,x=↥l/\vs=[]/\H l=⇑(.lst xs)/\xs[↑xs-1]?=⇑y/\Q y (aN H l (.lst xs.dropLast))
def Ov:WA X "list.pop" aeg:=by
 intro ao s σ H x vs v us Q I rx rv h;let⟨l,xs,y,rfl,rfl,hH,hy,q⟩:=h;cases rx;have hus:=rv.zero;subst hus;let⟨z,aP,n,r,hl,e⟩:=I.zT hH;let⟨u,hu,ru⟩:=r.get hy
 have Mb:aP.toArray[aP.toArray.size-1]?=⇑u:=by
  show aP.toArray[↑aP-1]?=⇑u;rw[← Array.getElem?_toList,← hl];exact hu
 refine call_meets F.slot_list_pop ⟨_,e,rfl⟩ F.entry_list_pop (F.args_list_pop_1 _) (MeetsSeq.list_pop_last l aP.toArray n u Mb (by rw[gP];lia)) ⟨e,?_⟩;refine⟨y,_,I.Ou (its':=aP.dropLast) hH e ?_ r.dropLast ?_,ru,q⟩
 ·show aP.toArray.eraseIdxIfInBounds (aP.toArray.size-1)=aP.dropLast.toArray;rw[gP,List.eraseIdxIfInBounds_toArray,IP]
 ·rw[List.length_dropLast];lia
def WB:V->List V->Hp->VK->Prop:=λx vs H Q=>∃ l xs i k y,x=↥l/\vs=[.int i]/\H l=⇑(.lst xs)/\-(2^63)<=i/\i<2^63/\seqIndex? i ↑xs=⇑k/\xs[k]?=⇑y/\Q y (aN H l (.lst (xs.eraseIdx k)))
def Ow:WA X "list.pop" WB:=by
 intro ao s σ H x vs v us Q I rx rv h;let⟨l,xs,i,k,y,rfl,rfl,hH,h1,h2,hk,hy,q⟩:=h;cases rx;let⟨u,rfl,ru⟩:=rv.one;let⟨t,rfl⟩:=ru;let⟨z,aP,n,r,hl,e⟩:=I.zT hH;let⟨w,hw,iW⟩:=r.get hy;refine call_meets F.slot_list_pop ⟨_,e,rfl⟩ F.entry_list_pop (F.args_list_pop_2 _ _) (MeetsSeq.list_pop_at l aP.toArray n i t k w (fitsIndex_both h1 h2) (by rw[gP,← hl];exact hk) (by rw[← Array.getElem?_toList];exact hw) (by rw[gP];lia)) ⟨e,?_⟩;refine⟨y,_,I.Ou (its':=aP.eraseIdx k) hH e ?_ (r.eraseIdx k) ?_,iW,q⟩
 ·show aP.toArray.eraseIdxIfInBounds k=(aP.eraseIdx k).toArray;rw[List.eraseIdxIfInBounds_toArray]
 ·have:=Ct xs k;lia
inductive ZV(x y:V)(H:Hp)(Q:VK):Prop
 | mk (l b:Addr) (xs zs:List V) (_:x=↥l) (_:y=↥b) (_:H l=⇑(.lst xs)) (_:H b=⇑(.lst zs)) (_:↑xs+↑zs<=sizeLine) (_:∀ p,H p=none->Q ↥p (aN H p (.lst (xs++zs))))
def jC:uA X (binaryOp .Add) ZV:=by
 intro ao s σ H x y v u Q I rx ry h;let⟨l,b,xs,zs,rfl,rfl,hH,hB,hz,q⟩:=h;cases rx;cases ry;let⟨z,aP,n,r,hl,e⟩:=I.zT hH;let⟨z2,its2,n2,r2,Bu,e2⟩:=I.zT hB;refine PySem.P.add_list e e2 ?_ (by rw[gP,gP];lia);have ea:aP.toArray++its2.toArray=(aP++its2).toArray:=by simp
 rw[ea];exact⟨↥_,_,I.RT (t':=s.toks) (r.append r2) (by rw[cT];lia),rfl,q _ I.fresh⟩
def ZW:R2:=λx y H Q=>∃ l k xs,x=↥l/\y=.int k/\H l=⇑(.lst xs)/\-(2^63)<=k/\k<2^63/\↑xs*k.toNat<=sizeLine/\
 ∀ p,H p=none->Q ↥p (aN H p (.lst (List.replicate k.toNat xs).flatten))
def RW{α:Type}(xs:List α)(k:Nat):(List.replicate k xs).flatten.length=k*↑xs:=by
 induction k with
 | zero=>simp
 | succ k ih=>rw[List.replicate_succ,List.flatten_cons,cT,ih,Nat.succ_mul,Nat.add_comm]
def Ox:uA X (binaryOp .Mult) ZW:=by
 intro ao s σ H x y v u Q I rx ry h;let⟨l,k,xs,rfl,rfl,hH,h1,h2,hz,q⟩:=h;cases rx;let⟨t,rfl⟩:=ry;let⟨z,aP,n,r,hl,e⟩:=I.zT hH;have dJ:aP.toArray.size*k.toNat<=sizeLine:=by rw[gP,← hl];exact hz
 have hcap:¬ aP.toArray.size*k.toNat > (2^63-1) / 8:=by
  have:(sizeLine:Nat)<=(2^63-1) / 8:=by decide
  lia
 have hfit:¬ (!Builtin.List.listFitsIndex k)=true:=by
  rw[fitsIndex_both h1 h2];exact gF
 have Fw:¬ Builtin.List.listTooLong (aP.toArray.size*k.toNat)=true:=by
  rw[zU dJ];exact gF
 have hnew:List.foldl (λx1 x2=>x1++x2) #[] (List.replicate (if aP.toArray.isEmpty=true then 0 else k.toNat) aP.toArray)=(List.replicate k.toNat aP).flatten.toArray:=by
  have f0:∀ m:Nat,List.foldl (λx1 x2=>x1++x2) #[] (List.replicate m aP.toArray)=(List.replicate m aP).flatten.toArray:=λm=>by
   have:=foldl_rep aP m [];rw[List.nil_append]at this;exact this
  rw[f0]
  cases aP with
  | nil=>simp
  | cons a r'=>rw[if_neg (by simp)]
 refine wpAny_binaryOp_repeat_ref (T:="list") (U:="int") (by decide) ⟨_,e,rfl⟩ (λs'=>typeIs_int s' k t) noFill_list_mul F.fills_int_mul F.slot_int_rmul repeat_list F.slot_int_index.lookup (call_meets F.slot_int_rmul (typeIs_int s k t) F.entry_int_rmul (F.args_int_rmul_2 _ _) (int___rmul___int_list k t l aP.toArray n) ⟨e,rfl,⟨_,e,rfl⟩,call_meets F.slot_list_mul ⟨_,e,rfl⟩ F.entry_list_mul (F.args_list_mul_2 _ _) (AutoListH.list___mul___list_int_3 l aP.toArray n k t hfit hcap Fw) ⟨e,?_⟩⟩);rw[hnew];exact⟨↥_,_,I.RT (t':=s.toks) (r.rep k.toNat) (by rw[RW,Nat.mul_comm];exact hz),rfl,q _ I.fresh⟩
end
end L2
namespace Att
open PySem.W Calls Rows
def yS{P:Params}{h:Heap}:∀ (ns:List Int) (vs:List Value),WellAll P h vs (ns.map WData.int)->IntsAre vs ns:=by
 intro ns
 induction ns with
 | nil =>
  intro vs w;rw[List.map_nil]at w;cases w;exact .nil
 | cons n ns ih =>
  intro vs w;rw[jy]at w
  cases w with
  | cons a b =>
   cases a;exact .cons _ _ (ih _ b)
theorem Mc{l:OpenLaw}{n:Nat}(hn:l.most=⇑n){P:Params}{h:Heap}{args:List WData}{WC:List Value}
  (RX:l.row.toRowW.claim.pre args=true) (ZX:WellAll P h WC args) :
  ∃ a vs ns,WC=[Value.ref a]/\args=[WData.list (ns.map WData.int)]/\h.get? a=some { cls:=.type "list",data:=.seq vs.toArray }/\IntsAre vs ns/\↑ns<=n:=by
 have yz:WShape.hasAll [] args [.list .int]=true:=(pre_splitW RX).1;have hc:l.pre.holds [] { args:=args }=true:=(pre_splitW RX).2;let⟨d,r,rfl,h1,h2⟩:=hasAllW_cons yz;obtain rfl:=hasAllW_nil h2;let⟨xs,rfl,h3⟩:=hasW_list h1;let⟨ns,rfl⟩:=items_int h3
 have dJ:↑ns<=n:=by
  unfold OpenLaw.pre at hc
  have h4:(WTm.not (.lt (.lit (.int (n:Int))) (.len (.arg 0)))).holds [] { args:=[.list (ns.map .int)] }=true:=by
   have h4:=(holds_andW hc).1;rw[hn]at h4;exact h4
  have h5:=condW_of h4 (w_not (w_lt w_lit (w_len_list (w_arg rfl))));rw[cB]at h5;refine Nat.le_of_not_lt λq=>?_;have q':(n:Int)<((↑ns:Nat):Int):=by lia
  first
   | (rw[decide_eq_true q']at h5;exact absurd h5 (by decide))
   | (simp at h5;lia)
 cases ZX with
 | cons w1 w2 =>
  cases w2
  cases w1 with
  | list ho Oz=>exact⟨E,ns,K,ho,yS ns _ Oz,dJ⟩
theorem Me(l:OpenLaw)(args:List WData):l.row.toRowW.claim.post args (.bool true) args=true :=
 postW_of (r:=l.row.toRowW) (X:=(true == true))
  (show WShape.has [] (.bool true) .bool=true by first|rfl|decide|simp[WShape.has,WShape.arms,WShape.armsAll])
  (show (WTm.eq .res (.lit (.bool true))).value [] { args:=args,res:=⇑(.bool true),after:=args }=⇑(.bool (true == true)) from w_eq_bool (w_res rfl) w_lit) rfl
theorem Fx{l:OpenLaw}{n:Nat}{q:Program}{Cu:List Str}{XP:(Str->Option Value)->Heap->Prop}{YP:World->Heap->Prop}{d:DefRec}
  (hn:l.most=⇑n) (ZY:d.params.defaults=[])
  (call:∀ (w:World) (s₀ s₁:Shared) (mg mb:Str->Option Value) (fa:Addr) (o:Obj) (pm cd yv:Value) (a:Addr) (vs:List Value) (ns:List Int),
   Ground q Cu [] XP w s₀ mg mb s₁.heap->YP w s₁.heap->
   s₁.heap.get? fa=⇑o->o.data=.func (docDef d.name d.params d.body d.scope pm cd yv)->s₁.heap.CodeRec cd d.name->mg d.name=⇑↥fa->
   s₁.heap.get? a=some { cls:=.type "list",data:=.seq vs.toArray }->IntsAre vs ns->↑ns<=n->s₁.gens=#[]->
   codeAny (model l.prog w) callerA (.call ↥fa ⟨[↥a],[]⟩) (λr s'=>r=.ok (.ret (.bool true))/\OldK s₁.heap s'.heap/\s'.os=s₁.os/\AllBare s'.gens) s₁) :
  WalkO q Cu XP YP l.row.toRowW d [] (λf vs=>PySem.call f vs):=by
 intro w s₀ s₁ mg mb G Y fa o pm cd yv dV kV ho hd N4 hD ZZ hg args WC as RX akD hrd ZX hlo;obtain rfl:dV=.none:=Dflts.none hD ZY;obtain rfl:kV=.none:=Dflts.noKw hD;let⟨a,vs,ns,rfl,rfl,WD,OA,dJ⟩:=Mc hn RX ZX;refine enter_call (codeAny_mono (call w s₀ s₁ mg mb fa o pm cd yv a vs ns G Y ho (fd_plain hd) N4 ZZ WD OA dJ hg) λr s' hq=>?_);let⟨rfl,h2,h3,h4⟩:=hq;exact⟨.inl ⟨.bool true,.bool true,[],rfl,λ_=>rfl,.bool true,Me l _,λ_=>⟨List.Pairwise.nil,λ_ hm=>(nomatch hm)⟩⟩,h2,h3,h4⟩
end Att
namespace L2
open Spec Rows
theorem Cv:∀ {vs:List Value} {ns:List Int},IntsAre vs ns->b8 (ns.map V.int) vs
 | _,_,.nil=>.nil
 | _,_,.cons n t h=>.cons ⟨t,rfl⟩ (Cv h)
def WE(H:Hp):Prop:=∀ b,H b=none\/∃ o xs,H b=⇑(.Ks o (.lst xs))
theorem OB{P:Program}{w:World}{K:Frag}{mg mb:Str->Option Value}{CX:Of}{k:Nat}{fa a:Addr}{fd:FuncData}{x:Str}{sp:Sp}{s₁:Shared}{vs:List Value}{ns:List Int}
  (KX:K.In s₁.heap) (NI:s₁.heap.Ns mainGlobals mg) (hb:s₁.heap.Ns builtinsNs mb) (hbb:∀ x:Str,x≠"__name__"->mb x=bootBuiltins x) (aeh:s₁.heap.NoLimit) (hg:s₁.gens=#[])
  (ha:s₁.heap.get? a=some { cls:=.type "list",data:=.seq vs.toArray }) (hi:IntsAre vs ns) (hl:↑ns<=sizeLine) (hr:jf k callerA)
  (F:∀ zt:Heap,K.In zt->zt.Ns mainGlobals mg->bq P w K mg zt CX k fa fd [x] sp) (Z0:∀ (s:Shared) (u:Value),BindsTo s fd ⟨[u],[]⟩ [(x,u)])
  (Ma:∀ H:Hp,WE H->bG K H a (ns.map V.int)->sp [↥a] H (λv _=>v=.bl true) λ_ _ _=>False)
  (hCX:∀ H e s',CX [] H s₁ (λ_ _ _=>False) e s'->False) :
  codeAny (model P w) callerA (.call ↥fa ⟨[↥a],[]⟩) (λr s'=>r=.ok (.ret (.bool true))/\OldK s₁.heap s'.heap/\s'.os=s₁.os/\AllBare s'.gens) s₁:=by
 have rv:=Cv hi;have aej:=↑hi
 have core:∀ H:Hp,WE H->bG K H a (ns.map V.int)->vq P w H s₁.heap->(∀ b,H b≠none->b=a)->(H a≠none->K.lookup a=none)->
   codeAny (model P w) callerA (.call ↥fa ⟨[↥a],[]⟩) (λr s'=>r=.ok (.ret (.bool true))/\OldK s₁.heap s'.heap/\s'.os=s₁.os/\AllBare s'.gens) s₁:=by
  intro H hO hS hok hA hK;have KS:∀ {b:Addr} {o:Obj},s₁.heap.get? b=⇑o->H b=none->(Dv s₁.heap H).get? b=⇑o:=λe n=>NZ e n
  have ZL:∀ {b:Addr} {o:Obj} {es:Array DictEntry} {ep:Nat},s₁.heap.get? b=⇑o->o.data=.dict es ep->H b=none:=λ{b o es ep} e d=>by
   cases q:H b with
   | none=>rfl
   | some u =>
    have e':b=a:=hA b (by rw[q];simp);subst e';rw[ha]at e;cases e;have d':Data.seq vs.toArray _=Data.dict es ep:=d;cases d'
  have nsK:∀ {b:Addr} {m:Str->Option Value},s₁.heap.Ns b m->(Dv s₁.heap H).Ns b m:=λ{b m} ⟨o,es,ep,e,d,r⟩=>⟨o,es,ep,KS e (ZL e d),d,r⟩
  have hKb:K.In (Dv s₁.heap H):=λb o e=>KS (KX b o e) (by
   cases q:H b with
   | none=>rfl
   | some u =>
    have e':b=a:=hA b (by rw[q];simp);subst e'
    rw[hK (by rw[q];simp)]at e;cases e)
  have hM:Mod K mg (Dv s₁.heap H):=⟨hKb,nsK NI,⟨mb,nsK hb,hbb⟩,let ⟨mc,h1,h2⟩:=aeh;⟨mc,nsK h1,h2⟩⟩;have e0:IC P w K mg (Dv s₁.heap H) callerA [] s₁ H:=⟨rfl,hM,λb o e=>RC e,Nat.le_of_eq (LN _ _),trivial,λb hb=>absurd (show b∈([]:List Addr) from hb) (by simp),hok,.of_eq hg⟩;refine codeAny_mono ((F _ hKb (nsK NI)).run callerA [] s₁ H ⟨[↥a],[]⟩ [↥a] [↥a] _ _ hr e0 (Z0 s₁ ↥a) (.cons rfl .nil) (Ma H hO hS)) λr s' h=>?_
  cases r with
  | error e=>exact (hCX H e s' h).elim
  | ok fl =>
   cases fl with
   | next=>exact False.elim h
   | brk=>exact False.elim h
   | cont=>exact False.elim h
   | ret u =>
    let⟨v,H',os,bare,un,aek,r',q⟩:=h;have q':v=.bl true:=q;subst q';obtain rfl:u=Value.bool true:=r';refine⟨rfl,OldK.of_keep λb o e=>?_,os,bare⟩
    cases q:H b with
    | none=>exact un.keep b o e q (by intro z;exact absurd (show b∈([]:List Addr) from z) (by simp)) (by simp)
    | some u =>
     rcases hO b with z|⟨ob,xs,z⟩
     ·rw[q]at z;cases z
     ·have z2:=un.Du b ob _ z;let⟨e1,_⟩:=hok b _ z;let⟨e2,_⟩:=aek b _ z2;rw[e]at e1;cases e1;exact e2
 cases hk:K.lookup a with
 | some o =>
  have e:=KX a o hk;rw[ha]at e;cases e;refine core (λ_=>none) (λ_=>.inl rfl) (.inr ⟨_,vs.toArray,_,hk,K,rfl,by rw[gP,aej];exact hl,by simpa using rv⟩) (λb u z=>by have z':(none:Option HO)=⇑u:=z;cases z') (λb z=>absurd rfl z) λz=>absurd rfl z
 | none =>
  refine core (λb=>if b=a then some (.Ks { cls:=.type "list",data:=.seq vs.toArray } (.lst (ns.map V.int))) else none) (λb=>?_) (.inl (.inr ⟨{ cls:=.type "list",data:=.seq vs.toArray },if_pos rfl⟩)) (λb u z=>?_) (λb z=>?_) λ_=>hk
  ·by_cases hb:b=a
   ·exact .inr ⟨E,if_pos hb⟩
   ·exact .inl (if_neg hb)
  ·by_cases hb:b=a
   ·have z':=(if_pos hb).symm.trans z;cases z';subst hb;exact⟨ha,by rw[cB];exact hl,vs,_,rv,ha⟩
   ·have z':=(if_neg hb).symm.trans z;cases z'
  ·by_cases hb:b=a
   ·exact hb
   ·exact absurd (if_neg hb) z
end L2
namespace L2
open Spec Rows
theorem RY{l:PySem.W.OpenLaw}{n k:Nat}{q:Program}{Cu:List Str}{XP:(Str->Option Value)->Heap->Prop}{YP:World->Heap->Prop}{d:DefRec}{K:Params->Frag}{CX:World->Of}{sp:World->Sp}{x:Str}
  (hn:l.most=⇑n) (hn2:n<=sizeLine) (ZY:d.params.defaults=[]) (hr:jf k callerA)
  (hY:∀ (w:World) (h:Heap),YP w h->(K w.params).In h)
  (F:∀ (w:World) (mg:Str->Option Value) (fa:Addr) (h:Heap),(K w.params).In h->h.Ns mainGlobals mg->mg d.name=⇑↥fa->
   ∃ fd:FuncData,(∀ (s:Shared) (u:Value),BindsTo s fd ⟨[u],[]⟩ [(x,u)])/\
    ∀ zt:Heap,(K w.params).In zt->zt.Ns mainGlobals mg->bq l.prog w (K w.params) mg zt (CX w) k fa fd [x] (sp w))
  (Ma:∀ (w:World) (H:Hp) (a:Addr) (ns:List Int),↑ns<=n->WE H->bG (K w.params) H a (ns.map V.int)->sp w [↥a] H (λv _=>v=.bl true) λ_ _ _=>False)
  (hCX:∀ (w:World) (H:Hp) (s:Shared) (e:Value) (s':Shared),CX w [] H s (λ_ _ _=>False) e s'->False) :
  PySem.W.WalkO q Cu XP YP l.row.toRowW d [] (λf vs=>PySem.call f vs):=by
 refine Att.Fx hn ZY λw s₀ s₁ mg mb fa o pm cd yv a vs ns G Y ho hd N4 ZZ WD OA dJ hg=>?_;have KX:=hY w _ Y;let⟨fd,hb,hF⟩:=F w mg fa _ KX G.T.g ZZ;exact OB KX G.T.g G.T.b G.T.builtins G.T.nolimit hg WD OA (gX dJ hn2) hr hF hb (λH hO hS=>Ma w H a ns dJ hO hS) λH e s'=>hCX w H s₁ e s'
end L2
namespace L2
open Spec Rows
def nh(s:Stmt):Arguments:=match s with
 | .FunctionDef _ a _ _ _ _ _ _ _ _=>a
 | _=>{ posonlyargs:=[],args:=[],vararg:=none,kwonlyargs:=[],kw_defaults:=[],kwarg:=none,defaults:=[] }
def jD(s:Stmt):List Stmt:=match s with
 | .FunctionDef _ _ b _ _ _ _ _ _ _=>b
 | _=>[]
def az(s:Stmt):Scope:=match s with
 | .FunctionDef _ _ _ _ _ _ sc _ _ _=>sc
 | _=>{ kind:=.function,names:=[],isGenerator:=false,isCoroutine:=false }
abbrev cO:Of:=λ_ _ _ _ _ _=>False
abbrev E0:XK:=λ_ _ _=>False
theorem bC{X:Cx}:nL cO X E0:=λ_ _ _ _ _ _ _ h=>h.elim
structure RZ(K:Frag)(x fN:Str)(st:Stmt)(f:Addr)(fd:FuncData):Prop where
 ex:∃ (oc:Value) (od:Option Addr) (kV yv pm:Value) (an:Option Addr) (cU ct:Value) (NH:Array (Option Value)),
  fd=fnOf x fN (nh st) (jD st) (az st) .none kV yv pm an cU ct/\K.lookup f=some ⟨oc,od,.func fd,NH⟩/\codeIn K cU fN=true
 kp:keepIn K ↥f=true
section
variable {P:Program} {w:World} {K:Frag} {mg:Str->Option Value} {zt:Heap}
theorem RZ.ok{x fN:Str}{st:Stmt}{f:Addr}{N ps:List Str}{k:Nat}{sp:Sp}(F:RZ K x fN st f fd)(S:aF N ps (az st))(len:∀ vs H Q E,sp vs H Q E->↑vs=↑ps)
  (Fv:∀ (cU:Value) (A:Around) (zn:List Env) (s:Shared) (H:Hp) (vs:List V) (Q:VK) (E:XK),jf k (A.deeper (envOfC fN (az st) s.heap.objs.size f cU))->sp vs H Q E->
   ∃ t,Kx (ID cO P w K mg zt N fN (az st) f cU A zn s H E).LP (jD st) t/\t { nx:=λ_ H'=>Q .fT H',rt:=Q } (start N vs) H):bq P w K mg zt cO (k+1) f fd ps sp:=by
 let⟨oc,od,kV,yv,pm,an,cU,ct,NH,rfl,lk,N4⟩:=F.ex;refine ZM lk N4 S len λA zn s H vs Q E hr Ma=>?_;let⟨t,h,q⟩:=Fv cU A zn s H vs Q E hr Ma;exact⟨t,h.LP,q⟩
theorem RZ.binds{x fN:Str}{st:Stmt}{f:Addr}{ps:List Str}(F:RZ K x fN st f fd)
  (h:∀ (kV yv pm:Value) (an:Option Addr) (cU ct:Value) (us:List Value),↑us=↑ps->bindArgs (fnOf x fN (nh st) (jD st) (az st) .none kV yv pm an cU ct) ⟨us,[]⟩=pure (ps.zip us)):Binds K fd ps []:=by
 let⟨oc,od,kV,yv,pm,an,cU,ct,NH,rfl,lk,N4⟩:=F.ex;exact .all (h kV yv pm an cU ct)
theorem IQ{x fN:Str}{st:Stmt}{f:Addr}{oc:Value}{od an:Option Addr}{NH:Array (Option Value)}{kV yv pm cU ct:Value}(l:K.lookup f=some ⟨oc,od,.func (fnOf x fN (nh st) (jD st) (az st) .none kV yv pm an cU ct),NH⟩)
  (c:codeIn K cU fN=true) (k:keepIn K ↥f=true):RZ K x fN st f (fnOf x fN (nh st) (jD st) (az st) .none kV yv pm an cU ct):=⟨⟨oc,od,kV,yv,pm,an,cU,ct,NH,rfl,l,c⟩,k⟩
end
theorem gT{A:Around}{k:Nat}(hr:jf k A):A.units+1<cLine:=Nat.lt_of_le_of_lt (Nat.add_le_add_left (by decide:1<=64) _) hr.units
section
variable {X:Cx}
theorem pv(i:Nat){x:Str}{pos:Pos}(hN:X.N[i]?=⇑x:=by rfl)(hv:Vis X.env.scope x:=by first|exact Or.inl rfl|exact Or.inr (Or.inl rfl)|exact Or.inr (Or.inr rfl))(hd:(x == ("__debug__":Str))=false:=by decide)
  (N4:(x == ("__classdict__":Str))=false:=by decide):PE X (.Name x pos) (RG i):=VY hN hv hd N4
end
def eL{A B:Prop}(h:B):if false=true then A else B:=by
 rw[if_neg gF];exact h
def iX{A B:Prop}(h:A):if true=true then A else B:=by
 rw[if_pos rfl];exact h
def cR{c A B:Prop} [Decidable c] (h1:c->A) (h2:¬ c->B):if c then A else B:=by
 by_cases h:c
 ·rw[if_pos h];exact h1 h
 ·rw[if_neg h];exact h2 h
def Cw{c A B:Prop} [Decidable c] (hc:c) (h:B):if (!decide c)=true then A else B:=by
 rw[decide_eq_true hc];exact eL h
def aI(H H':Hp):Prop:=∀ b o,H b=⇑o->H' b=⇑o
theorem aI.refl(H:Hp):aI H H:=λ_ _ h=>h
theorem aI.trans{H H1 H2:Hp}(a:aI H H1)(b:aI H1 H2):aI H H2:=λc o h=>b c o (a c o h)
def aI.free{H H':Hp}(e:aI H H'){l:Addr}(h:H' l=Option.none):H l=Option.none:=by
 cases q:H l with
 | none=>rfl
 | some o =>
  rw[e l o q]at h;cases h
end L2
namespace gB
open L2
def top(i:Nat):Stmt:=PySem.Challenge.pw_inkroot_k57_whole_stirred.main.body.getD i (.Pass ⟨0,0,0,0⟩)
def R0:Stmt->List Stmt
 | .ClassDef (body:=b) ..=>b
 | _=>[]
def fk(i j:Nat):Stmt:=(R0 (top i)).getD j (.Pass ⟨0,0,0,0⟩)
inductive DI(K:Frag)(x:Str)(st:Stmt)(f:Addr):Prop
 | mk {oc:Value} {od an:Option Addr} {NH:Array (Option Value)} {kV yv pm cU ct:Value} (_:nsIn K mainGlobals x=⇑(⇑↥f)) (_:K.lookup f=some ⟨oc,od,.func (fnOf x x (nh st) (jD st) (az st) .none kV yv pm an cU ct),NH⟩) (_:codeIn K cU x=true) (_:keepIn K ↥f=true)
inductive MI(K:Frag)(C:Addr)(x fN:Str)(st:Stmt)(f:Addr):Prop
 | mk {oc:Value} {od an:Option Addr} {NH:Array (Option Value)} {kV yv pm cU ct:Value} (_:findIn K ↥C x=⇑(⇑↥f)) (_:isFn K ↥f=true) (_:K.lookup f=some ⟨oc,od,.func (fnOf x fN (nh st) (jD st) (az st) .none kV yv pm an cU ct),NH⟩) (_:codeIn K cU fN=true) (_:keepIn K ↥f=true)
inductive CI(K:Frag)(x:Str)(C:Addr):Prop
 | mk (_:nsIn K mainGlobals x=⇑(⇑↥C)) (_:plainGet K C Str.empty=true) (_:hasDictIn K C=true) (_:plainOver K C=true) (_:findIn K ↥C "__setattr__"=⇑(⇑(.builtin "object.__setattr__"))) (_:makesIn K C=true) (_:keepIn K ↥C=true)
class inductive OC(K:Frag)
 | mk (a:Addr) (ns:List Int) (_:vs=[↥a]) (_:bG K H a (ns.map V.int)) (_:↑ns<=63) (_: ∀ H',Q (.bl true) H')
abbrev w9:Stmt:=top 70
abbrev uB:Stmt:=top 71
abbrev qY:Stmt:=top 72
abbrev uC:Stmt:=top 73
abbrev IS:Stmt:=top 11
abbrev KU:Stmt:=top 12
abbrev nM:Stmt:=top 14
abbrev DF:Stmt:=top 15
abbrev OD:Stmt:=top 16
abbrev kT:Stmt:=fk 27 0
abbrev uD:Stmt:=fk 27 4
abbrev pI:Stmt:=top 17
abbrev vG:Stmt:=top 31
abbrev DG:Stmt:=top 32
abbrev pJ:Stmt:=top 39
abbrev OE:Stmt:=top 40
abbrev pK:Stmt:=top 37
abbrev jE:Stmt:=top 38
abbrev xg:Stmt:=top 33
abbrev lQ:Stmt:=top 34
abbrev IT:Stmt:=top 35
abbrev zV:Stmt:=top 43
abbrev pL:Stmt:=top 44
abbrev DH:Stmt:=top 45
abbrev IU:Stmt:=top 46
abbrev uE:Stmt:=top 47
abbrev uF:Stmt:=top 49
abbrev DJ:Stmt:=top 48
abbrev uG:Stmt:=top 50
abbrev pM:Stmt:=top 51
abbrev pN:Stmt:=top 52
abbrev pO:Stmt:=top 54
abbrev qZ:Stmt:=top 55
abbrev zW:Stmt:=top 57
abbrev kU:Stmt:=fk 58 0
abbrev uH:Stmt:=fk 58 3
abbrev rf:Stmt:=fk 58 2
abbrev rj:Stmt:=fk 58 1
abbrev jg:Stmt:=fk 58 4
abbrev iO:Stmt:=fk 58 5
abbrev uI:Stmt:=fk 58 7
abbrev iH:Stmt:=fk 58 10
abbrev rm:Stmt:=fk 58 9
abbrev mw:Stmt:=fk 60 0
abbrev mz:Stmt:=fk 29 0
abbrev mC:Stmt:=fk 62 0
abbrev uJ:Stmt:=fk 62 2
abbrev uK:Stmt:=fk 62 1
abbrev ni:Stmt:=fk 62 6
abbrev pP:Stmt:=top 67
abbrev mD:Stmt:=fk 68 1
abbrev nO:Stmt:=fk 68 26
abbrev kW:Stmt:=fk 68 2
abbrev mE:Stmt:=fk 68 3
abbrev mF:Stmt:=fk 68 7
abbrev mG:Stmt:=fk 68 30
abbrev nP:Stmt:=fk 68 6
abbrev pQ:Stmt:=fk 68 27
abbrev iP:Stmt:=fk 68 4
abbrev pR:Stmt:=fk 68 8
abbrev jF:Stmt:=fk 68 0
abbrev pS:Stmt:=fk 68 9
abbrev mH:Stmt:=fk 68 11
abbrev pT:Stmt:=fk 68 28
abbrev kX:Stmt:=fk 68 12
abbrev pU:Stmt:=fk 68 13
abbrev nQ:Stmt:=fk 68 10
abbrev kZ:Stmt:=top 22
abbrev DK:Stmt:=top 23
abbrev pV:Stmt:=fk 27 3
abbrev iQ:Stmt:=fk 62 5
abbrev uL:Stmt:=fk 62 3
abbrev i6:Stmt:=fk 68 23
abbrev nR:Stmt:=fk 68 32
abbrev DL:Stmt:=top 20
abbrev uM:Stmt:=top 24
abbrev vH:Stmt:=top 25
abbrev uN:Stmt:=fk 62 4
abbrev lg:Stmt:=fk 68 47
abbrev jh:Stmt:=fk 68 24
abbrev xh:Stmt:=fk 60 1
abbrev xj:Stmt:=fk 29 2
abbrev xm:Stmt:=fk 29 1
abbrev pW:Stmt:=fk 68 19
abbrev nV:Stmt:=fk 68 21
abbrev nj:Stmt:=top 81
abbrev uO:Stmt:=top 82
abbrev uP:Stmt:=top 83
abbrev rA:Stmt:=top 74
abbrev uQ:Stmt:=top 76
abbrev nX:Stmt:=top 77
abbrev pX:Stmt:=top 78
abbrev xo:Stmt:=top 79
abbrev xq:Stmt:=top 80
abbrev nY:Stmt:=top 84
abbrev mJ:Stmt:=top 92
abbrev pY:Stmt:=top 85
abbrev rB:Stmt:=top 86
abbrev tW:Stmt:=fk 68 14
abbrev uR:Stmt:=top 87
abbrev nZ:Stmt:=top 88
abbrev oh:Stmt:=top 89
abbrev uS:Stmt:=top 90
abbrev zX:Stmt:=top 41
abbrev nv:Stmt:=top 93
abbrev ny:Stmt:=top 95
abbrev rC:Stmt:=top 94
abbrev Mf:Stmt:=top 96
end gB
namespace gB
open L2
inductive Pm(K:Frag)(mg:Str->Option Value)(fa:Addr):Prop
 | mk {h:Heap} {Bv Bw OF:Tok} (eY ic ie oK oM bJ:Addr) (X:K.In h) (G:h.Ns mainGlobals mg) (hfa:mg "law"=⇑↥fa)
  (KW:CI K "Shelf" eY)
  (j7:findIn K ↥eY "states"=⇑none)
  (oN:findIn K ↥eY "openings"=⇑none)
  (OG:CI K "Well" ic)
  (uT:findIn K ↥ic "signs"=⇑none)
  (sD:findIn K ↥ic "owners"=⇑none)
  (oO:findIn K ↥ic "pourings"=⇑none)
  (KY:CI K "Blots" ie)
  (sE:findIn K ↥ie "stains"=⇑none)
  (OH:CI K "Ties" oK)
  (xu:findIn K ↥oK "given"=⇑none)
  (zY:findIn K ↥oK "pairs"=⇑none)
  (OI:CI K "Dues" oM)
  (Cy:findIn K ↥oM "sums"=⇑none)
  (Cz:CI K "Library" bJ)
  (vI:findIn K ↥bJ "well"=⇑none)
  (fQ:findIn K ↥bJ "shelf"=⇑none)
  (xx:findIn K ↥bJ "blots"=⇑none)
  (zZ:findIn K ↥bJ "knots"=⇑none)
  (Fy:findIn K ↥bJ "dues"=⇑none)
  (Fz:findIn K ↥bJ "book"=⇑none)
  (q0:DI K "_law_src" w9 f0)
  (q1:DI K "_law_next" uB f1)
  (q2:DI K "_law_whole" qY f2)
  (q3:DI K "_law_same" uC f3)
  (q4:DI K "plain" IS f4)
  (q5:DI K "size" KU f5)
  (q6:DI K "check_places" nM f6)
  (q7:DI K "pieces" DF f7)
  (q8:DI K "part" OD f8)
  (q9:MI K ie "__init__" "Blots.__init__" kT f9)
  (CA:DI K "addresses" pI f10)
  (q11:DI K "windows" vG f11)
  (q12:DI K "below" DG f12)
  (q13:DI K "way_between" pJ f13)
  (q14:DI K "ring" OE f14)
  (q15:DI K "item_weight" pK f15)
  (q16:DI K "weights_below" jE f16)
  (q17:DI K "item_row" xg f17)
  (q18:DI K "views_below" lQ f18)
  (q19:DI K "shown" IT f19)
  (q20:DI K "goes_on" zV f20)
  (q21:DI K "plain_items" pL f21)
  (q22:DI K "inked" DH f22)
  (q23:DI K "dealt" IU f23)
  (q24:DI K "put_among" uE f24)
  (q25:DI K "put_items" uF f25)
  (q26:DI K "parted" DJ f26)
  (q27:DI K "cut_items" uG f27)
  (q28:DI K "moved_items" pM f28)
  (q29:DI K "fixed_items" pN f29)
  (q30:DI K "ink_words" pO f30)
  (q31:DI K "shown_deed" qZ f31)
  (q32:DI K "changed" zW f32)
  (q33:MI K eY "__init__" "Shelf.__init__" kU f33)
  (q34:MI K eY "now" "Shelf.now" uH f34)
  (q35:MI K eY "many" "Shelf.many" rf f35)
  (q36:MI K eY "step" "Shelf.step" rj f36)
  (q37:MI K eY "check_sheet" "Shelf.check_sheet" jg f37)
  (q38:MI K eY "check_moment" "Shelf.check_moment" iO f38)
  (q39:MI K eY "rows_then" "Shelf.rows_then" iH f39)
  (q40:MI K eY "rows" "Shelf.rows" rm f40)
  (q41:MI K eY "row" "Shelf.row" uI f41)
  (q42:MI K oK "__init__" "Ties.__init__" mw f42)
  (q43:MI K oM "__init__" "Dues.__init__" mz f43)
  (q44:MI K ic "__init__" "Well.__init__" mC f44)
  (q45:MI K ic "size" "Well.size" uJ f45)
  (q46:MI K ic "pour" "Well.pour" uK f46)
  (q47:MI K ic "holds" "Well.holds" ni f47)
  (q48:DI K "check_weave" pP f48)
  (q49:MI K bJ "__init__" "Library.__init__" jF f49)
  (q50:MI K bJ "enter" "Library.enter" mD f50)
  (q51:MI K bJ "change" "Library.change" kW f51)
  (q52:MI K bJ "many" "Library.many" nO f52)
  (q53:MI K bJ "begin" "Library.begin" mE f53)
  (q54:MI K bJ "fresh" "Library.fresh" mF f54)
  (q55:MI K bJ "ink" "Library.ink" pQ f55)
  (q56:MI K bJ "check_held" "Library.check_held" iP f56)
  (q57:MI K bJ "pour" "Library.pour" nP f57)
  (q58:MI K bJ "put" "Library.put" pR f58)
  (q59:MI K bJ "shown" "Library.shown" mG f59)
  (q60:MI K bJ "cut" "Library.cut" pS f60)
  (q61:MI K bJ "quote" "Library.quote" mH f61)
  (q62:MI K bJ "row" "Library.row" pT f62)
  (q63:MI K bJ "window" "Library.window" kX f63)
  (q64:MI K bJ "fix" "Library.fix" pU f64)
  (q65:MI K bJ "move" "Library.move" nQ f65)
  (q66:DI K "first_reaching" kZ f66)
  (q67:DI K "within" DK f67)
  (q68:MI K ie "hides" "Blots.hides" pV f68)
  (q69:MI K ic "check_address" "Well.check_address" iQ f69)
  (q70:MI K ic "sign" "Well.sign" uL f70)
  (q71:MI K bJ "veiled" "Library.veiled" i6 f71)
  (q72:MI K bJ "text" "Library.text" nR f72)
  (q73:DI K "spread" DL f73)
  (q74:DI K "left_over" uM f74)
  (q75:DI K "without" vH f75)
  (q76:MI K ie "row" "Blots.row" uD f76)
  (q77:MI K ic "hand" "Well.hand" uN f77)
  (q78:MI K bJ "hidden" "Library.hidden" lg f78)
  (q79:MI K bJ "poured_by" "Library.poured_by" jh f79)
  (q80:MI K oK "tie" "Ties.tie" xh f80)
  (q81:MI K oM "due" "Dues.due" xj f81)
  (q82:MI K oM "pay" "Dues.pay" xm f82)
  (q83:MI K bJ "tie" "Library.tie" pW f83)
  (q84:MI K bJ "read" "Library.read" nV f84)
  (q85:DI K "_law_world" nj f85)
  (q86:DI K "_law_keep" uO f86)
  (q87:DI K "_law_swap" uP f87)
  (q88:DI K "_law_spell" rA f88)
  (q89:DI K "_law_show" uQ f89)
  (q90:DI K "_law_reached" nX f90)
  (q91:DI K "_law_pieces" pX f91)
  (q92:DI K "_law_put" xo f92)
  (q93:DI K "_law_cut" xq f93)
  (q94:DI K "_law_weighed" nY f94)
  (q95:DI K "_law_items_of" mJ f95)
  (q96:DI K "_law_fits" pY f96)
  (q97:DI K "_law_after" rB f97)
  (q98:MI K bJ "back" "Library.back" tW f98)
  (q99:DI K "_law_done" uR f99)
  (Z1:DI K "_law_ink_row" nZ akG)
  (Z2:DI K "_law_move_by" oh akH)
  (Z3:DI K "_law_draw" uS akI)
  (Z4:DI K "above" zX akJ)
  (Z5:DI K "_law_begin" nv akK)
  (Z6:DI K "_law_shows" ny akL)
  (Z7:DI K "_law_quiet" rC akM)
  (Z8:DI K "law" Mf akN)
  (z0:nsIn K mainGlobals "len"=⇑none)
  (z1:nsIn K mainGlobals "list"=⇑none)
  (z2:nsIn K mainGlobals "tuple"=⇑none)
  (z3:nsIn K mainGlobals "int"=⇑none)
  (z4:nsIn K mainGlobals "bool"=⇑none)
  (z5:nsIn K mainGlobals "str"=⇑none)
  (z6:nsIn K mainGlobals "range"=⇑none)
  (z7:nsIn K mainGlobals "zip"=⇑none)
  (z8:nsIn K mainGlobals "isinstance"=⇑none)
  (z9:nsIn K mainGlobals "sum"=⇑none)
  (z10:nsIn K mainGlobals "min"=⇑none)
  (z11:nsIn K mainGlobals "max"=⇑none)
  (z12:nsIn K mainGlobals "all"=⇑none)
  (z13:nsIn K mainGlobals "sorted"=⇑none)
  (tX:nsIn K mainGlobals "MOST_SHEETS"=⇑(⇑(.int 40 Bv)))
  (tY:nsIn K mainGlobals "MOST_WEIGHT"=⇑(⇑(.int 200 Bw)))
  (FA:nsIn K mainGlobals "HIDDEN"=⇑(⇑(.str "#" OF)))
  (vJ:nsIn K mainGlobals "size_spans"=⇑(⇑↥f5))
  (tZ:nsIn K mainGlobals "shown_weave"=⇑(⇑↥f19))
def UT:Prop:=∀ {P:Program} {w:World} {K:Frag} {mg:Str->Option Value} {fa:Addr},Pm K mg fa->∃ fd:FuncData,(∀ (s:Shared) (v:Value),BindsTo s fd ⟨[v],[]⟩ [("_law_script",v)])/\∀ zt:Heap,K.In zt->zt.Ns mainGlobals mg->bq P w K mg zt cO 47 fa fd ["_law_script"] (OC K)
theorem walk{l:PySem.W.OpenLaw}{q:Program}{Cu:List Str}{XP:(Str->Option Value)->Heap->Prop}{YP:World->Heap->Prop}{d:DefRec}{K:Params->Frag}(hn:l.most=some 63)(ZY:d.params.defaults=[])
  (hY:∀ (w:World) (h:Heap),YP w h->(K w.params).In h)
  (F:∀ (w:World) (mg:Str->Option Value) (fa:Addr) (h:Heap),(K w.params).In h->h.Ns mainGlobals mg->mg d.name=⇑↥fa->
   ∃ fd:FuncData,(∀ (s:Shared) (u:Value),BindsTo s fd ⟨[u],[]⟩ [("_law_script",u)])/\∀ zt:Heap,(K w.params).In zt->zt.Ns mainGlobals mg->bq l.prog w (K w.params) mg zt cO 47 fa fd ["_law_script"] (OC (K w.params))) :
  PySem.W.WalkO q Cu XP YP l.row.toRowW d [] (λf vs=>PySem.call f vs) :=
 L2.RY (n:=63) (k:=47) (x:="_law_script") (CX:=λ_=>cO) (sp:=λw=>OC (K w.params)) hn (by decide) ZY ⟨rfl,by decide,by decide⟩ hY F (λ_ _ a ns hl _ hS=>⟨a,ns,rfl,hS,hl,λ_=>rfl⟩) λ_ _ _ _ _ z=>z
end gB
namespace InkHd
open PySem.W Rows
set_option maxRecDepth 100000 in
set_option maxHeartbeats 0 in
def hd2(A:gB.UT):PySem.Challenge.rw_inkroot_k57_whole_stirred.Holds:=by
 refine hd_k57 ?_
 k_fill
 refine gB.walk (l:=PySem.Challenge.rw_inkroot_k57_whole_stirred) rfl rfl (λw h Y=>kIn_of Y) ?F
 case F =>
  intro w mg fa h KX G ZZ
  refine' A (.mk _ _ _ _ _ _ KX G ZZ (.mk ..) _ _ (.mk ..) _ _ _ (.mk ..) _ (.mk ..) _ _ (.mk ..) _ (.mk ..) _ _ _ _ _ _ (.mk ..) (.mk ..) (.mk ..) (.mk ..) (.mk ..) (.mk ..) (.mk ..) (.mk ..) (.mk ..) (.mk ..) (.mk ..) (.mk ..) (.mk ..) (.mk ..) (.mk ..) (.mk ..) (.mk ..) (.mk ..) (.mk ..) (.mk ..) (.mk ..) (.mk ..) (.mk ..) (.mk ..) (.mk ..) (.mk ..) (.mk ..) (.mk ..) (.mk ..) (.mk ..) (.mk ..) (.mk ..) (.mk ..) (.mk ..) (.mk ..) (.mk ..) (.mk ..) (.mk ..) (.mk ..) (.mk ..) (.mk ..) (.mk ..) (.mk ..) (.mk ..) (.mk ..) (.mk ..) (.mk ..) (.mk ..) (.mk ..) (.mk ..) (.mk ..) (.mk ..) (.mk ..) (.mk ..) (.mk ..) (.mk ..) (.mk ..) (.mk ..) (.mk ..) (.mk ..) (.mk ..) (.mk ..) (.mk ..) (.mk ..) (.mk ..) (.mk ..) (.mk ..) (.mk ..) (.mk ..) (.mk ..) (.mk ..) (.mk ..) (.mk ..) (.mk ..) (.mk ..) (.mk ..) (.mk ..) (.mk ..) (.mk ..) (.mk ..) (.mk ..) (.mk ..) (.mk ..) (.mk ..) (.mk ..) (.mk ..) (.mk ..) (.mk ..) (.mk ..) (.mk ..) (.mk ..) (.mk ..) (.mk ..) (.mk ..) (.mk ..) (.mk ..) (.mk ..) (.mk ..) (.mk ..) (.mk ..) (.mk ..) (.mk ..) (.mk ..) (.mk ..) (.mk ..) (.mk ..) (.mk ..) (.mk ..) _ _ _ _ _ _ _ _ _ _ _ _ _ _ _ _ _ _ _)
  all_goals try first|k_is|k_exc|kts_exm
end InkHd
namespace cX
open Spec Rows L2
section
variable {X:Cx}
def dR:jA X (.builtin "isinstance") (λxs H Q=>∃ x T t b,xs=[x,.ty T]/\kg X.K H x t/\kitOne X.K t (.type T)=⇑b/\Q (.bl b) H):=by
 intro ao s σ H xs us Q I r h;let⟨x,T,t,b,rfl,ty,e,q⟩:=h;let⟨u,v,rfl,rx,rv⟩:=r.two;cases (show v=Value.type T from rv);exact LZ I rx ty e λtk=>⟨.bl b,H,I.tok tk,rfl,q⟩
theorem qv{x:Str}{T:String}(hg:Gl X x)(hm:X.mg x=none)(hv:bootBuiltins x=⇑(.type T))(hn:x≠"__name__":=by decide)(hd:(x == ("__debug__":Str))=false:=by decide):PE X (.Name x pos) (tC (.ty T)) :=
 RH hg hm hv rfl hn hd
end
theorem Sb{X:Cx}{σ:L2.St}{H:Hp}{s:Shared}{h':Heap}{t':Nat}{ch:List Addr}(I:Inv X ao σ H s)(k:∀ b o,b∉ch->s.heap.get? b=⇑o->h'.get? b=⇑o)
  (hf:∀ b∈ch,pH X ao H b):Inv X ao σ H { s with heap:=h',toks:=t' }:=by
 have UM:∀ b u,H b=⇑u->b∉ch:=λb u e z=>by rw[(hf b z).1]at e;cases e
 refine I.step (g':=s.gens) (d':=s.drawn) (ch:=ch) (λb hb=>?_) (λb o _ _ hc e _=>k b o hc e) (λb o _ _ hc e _=>⟨o.slots,k b o hc e⟩) (λ_ _ _ _ n=>n) (λb o hc e=>⟨o,k b o hc e⟩) (λ_ _ e=>e) (λ_ _ _ e=>e) (λb ps e=>⟨#[],by rw[e];simp⟩) (λm hm=>?_) (λb u e=>?_) I.bare
 ·let⟨_,f1,_,f3,f4,f5⟩:=hf b hb;exact⟨f3,f1,f4,f5⟩
 ·let⟨o,es,ep,ho,r⟩:=hm;exact⟨o,es,ep,k _ o (λz=>(hf _ z).2.1 rfl) ho,r⟩
 ·refine (I.hok b u e).stay (λc v hc q=>k c v ?_ q) (λ_ q=>q) λ_ _ q=>q;rcases hc with z|z
  ·rw[z];exact UM b u e
  ·exact UM c _ z
theorem Z9{X:Cx}{σ:L2.St}{H:Hp}{s:Shared}{h':Heap}{t':Nat}{ch:List Addr}{p:Addr}{xs:List V}{us:List Value}(I:Inv X ao σ H s)(k:∀ b o,b∉ch->s.heap.get? b=⇑o->h'.get? b=⇑o)
  (hf:∀ b∈ch,pH X ao H b) (hp:s.heap.objs.size<=p) (hz:↑xs<=sizeLine) (rv:b8 xs us) (ht:IsTup h' p us.toArray):Inv X ao σ (aN H p (.tup xs)) { s with heap:=h',toks:=t' }:=by
 have hn:H p=none:=I.hok.fresh hp;have UM:∀ b u,H b=⇑u->b∉ch:=λb u e z=>by rw[(hf b z).1]at e;cases e
 have nep:∀ b o,s.heap.get? b=⇑o->b≠p:=λb o e z=>by subst z;exact absurd (qS (Heap.lt_size e) hp) (Nat.lt_irrefl _)
 refine I.step (g':=s.gens) (d':=s.drawn) (ch:=ch) (λb hb=>?_) (λb o _ _ hc e _=>k b o hc e) (λb o _ _ hc e _=>⟨o.slots,k b o hc e⟩) (λb o _ e n=>by rw[aL (nep b o e)];exact n) (λb o hc e=>⟨o,k b o hc e⟩) (λb ys e=>by rw[aL (aA e hn)];exact e) (λb _ _ e=>by rw[aL (aA e hn)];exact e) (λb ps e=>⟨#[],by rw[aL (aA e hn),e];simp⟩) (λm hm=>?_) (λb u e=>?_) I.bare
 ·let⟨_,f1,_,f3,f4,f5⟩:=hf b hb;exact⟨f3,f1,f4,f5⟩
 ·let⟨o,es,ep,ho,r⟩:=hm;exact⟨o,es,ep,k _ o (λz=>(hf _ z).2.1 rfl) ho,r⟩
 ·by_cases hb:b=p
  ·subst hb;rw[af]at e;cases e;exact⟨hz,us,rv,ht⟩
  ·rw[aL hb]at e;refine (I.hok b u e).stay (λc v hc q=>k c v ?_ q) (λc q=>by rw[aL (aA q hn)];exact q) λc ys q=>by rw[aL (aA q hn)];exact q
   rcases hc with z|z
   ·rw[z];exact UM b u e
   ·exact UM c _ z
def HV(k:Bool)(h:Heap)(i a:Addr)(n:Nat):Prop:=match k with
 | true=>h.IsListIter i a n
 | false=>h.IsTupleIter i a n
def Bo(k:Bool)(h:Heap)(a:Addr)(xs:Array Value):Prop:=match k with
 | true=>h.IsList a xs
 | false=>h.IsTuple a xs
def HV.at{k:Bool}{h h':Heap}{i a:Addr}{n:Nat}(x:HV k h i a n)(e:∀ o,h.get? i=⇑o->h'.get? i=⇑o):HV k h' i a n:=by
 cases k
 ·let⟨o,ho,r⟩:=x;exact⟨o,e o ho,r⟩
 ·let⟨o,ho,r⟩:=x;exact⟨o,e o ho,r⟩
def Bo.at{k:Bool}{h h':Heap}{a:Addr}{xs:Array Value}(x:Bo k h a xs)(e:∀ o,h.get? a=⇑o->h'.get? a=⇑o):Bo k h' a xs:=by
 cases k
 ·let⟨o,ho,r⟩:=x;exact⟨o,e o ho,r⟩
 ·let⟨o,ho,r⟩:=x;exact⟨o,e o ho,r⟩
def HV.obj{k:Bool}{h:Heap}{i a:Addr}{n:Nat}(x:HV k h i a n):∃ o,h.get? i=⇑o/\∀ v,o.data≠.cell v:=by
 cases k
 ·let⟨o,ho,_,d⟩:=x;exact⟨o,ho,λv z=>by rw[d]at z;cases z⟩
 ·let⟨o,ho,_,d⟩:=x;exact⟨o,ho,λv z=>by rw[d]at z;cases z⟩
section
variable {prog:Program} {w:World} {A:Around} {E:Value->Shared->Prop} {s:Shared}
theorem IV{it t:Addr}{i:Nat}{items:Array Value}{x:Value}{Q:Value->Shared->Prop}(uU:s.heap.IsTupleIter it t i)(ht:s.heap.IsTuple t items)(hx:items[i]?=⇑x)
  (hQ:∀ h',h'.IsTupleIter it t (i+1)->Heap.SameBut it s.heap h'->Q x { s with heap:=h' }):wpAny (model prog w) A (Builtin.SmallTypes.nextOf ↥it) Q E s:=by
 let⟨o,ho,hc,hd⟩:=id uU;let⟨ol,hol,_,nl,Sd⟩:=ht;unfold Builtin.SmallTypes.nextOf;refine wpAny_bind (wpAny_callSpecial?_slot (name:=Str.ofString "__next__") uU.typeIs F.slot_tuple_iterator_next (wpAny_call_entry F.slot_tuple_iterator_next uU.typeIs F.entry_tuple_iterator_next ?_ (F.args_tuple_iterator_next_1 _)));show wpAny _ _ (field ↥it 0 >>= _) _ _ s;refine wpAny_bind (wpAny_field ho hd (x:=↥t) rfl ?_);show wpAny _ _ (if (Value.ref t == Value.none)=true then _ else _) _ _ s;rw[if_neg (show ¬ ((Value.ref t == Value.none)=true) from gF)];show wpAny _ _ (field ↥it 1 >>= _) _ _ s;refine wpAny_bind (wpAny_field ho hd (x:=.int i 0) rfl ?_);show wpAny _ _ (seqItems? ↥t >>= _) _ _ s;refine wpAny_bind (wpAny_seqItems hol Sd ?_);simp only[Int.toNat_natCast,hx];refine wpAny_bind (wpAny_setField ho hd (by simp) (wpAny_pure ⟨x,rfl,wpAny_pure (hQ _ ?_ (Heap.SameBut.update ..))⟩));exists _,Heap.get?_update_self _ ho (Obj.isFreed_of_fields (Obj.data_mapFields hd _)),(Obj.cls_mapFields ..).trans hc;rw[Obj.data_mapFields hd];simp[rawInt]
theorem Mg{it t:Addr}{i:Nat}{items:Array Value}{Q:Value->Shared->Prop}(hh:A.handled=none)(uU:s.heap.IsTupleIter it t i)(ht:s.heap.IsTuple t items)(hx:items[i]?=none)
  (hE:∀ h' e,Heap.ExtBut it s.heap h'->(∃ o,h'.get? e=⇑o/\o.cls=.type "StopIteration")->E ↥e { s with heap:=h' }):wpAny (model prog w) A (Builtin.SmallTypes.nextOf ↥it) Q E s:=by
 let⟨o,ho,hc,hd⟩:=id uU;let⟨ol,hol,_,nl,Sd⟩:=ht;unfold Builtin.SmallTypes.nextOf;refine wpAny_bind (wpAny_callSpecial?_slot (name:=Str.ofString "__next__") uU.typeIs F.slot_tuple_iterator_next (wpAny_call_entry F.slot_tuple_iterator_next uU.typeIs F.entry_tuple_iterator_next ?_ (F.args_tuple_iterator_next_1 _)));show wpAny _ _ (field ↥it 0 >>= _) _ _ s;refine wpAny_bind (wpAny_field ho hd (x:=↥t) rfl ?_);show wpAny _ _ (if (Value.ref t == Value.none)=true then _ else _) _ _ s;rw[if_neg (show ¬ ((Value.ref t == Value.none)=true) from gF)];show wpAny _ _ (field ↥it 1 >>= _) _ _ s;refine wpAny_bind (wpAny_field ho hd (x:=.int i 0) rfl ?_);show wpAny _ _ (seqItems? ↥t >>= _) _ _ s;refine wpAny_bind (wpAny_seqItems hol Sd ?_);simp only[Int.toNat_natCast,hx];refine wpAny_bind (wpAny_rule (wpAny_bind (wpAny_setField ho hd (by simp) ?_)));show wpAny _ _ (newExc (.type "StopIteration") [] >>= _) _ _ _;refine wpAny_bind ?_;simp only[newExc,newTuple];refine wpAny_bind (wpAny_newObj_type ?_ (by size_fits))
 refine wpAny_bind (m:=firstArgMember _ _) (wpAny_of_eq (a:=Value.none) (by first|rfl|(simp only[firstArgMember];rfl)) ?_)
 refine wpAny_newObj_type ?_ (by size_fits);simp only[raiseNew];refine wpAny_bind (wpAny_handled ?_)
 first|rw[show A.in1.handled=none from hh]|rw[hh]
 refine wpAny_bind (wpAny_pure (wpAny_throw ?_));exact hE _ _ (((Heap.SameBut.update ..).extBut.push _).push _) ⟨_,Heap.get?_push_size _ rfl,rfl⟩
theorem uV{k:Bool}{it t:Addr}{i:Nat}{items:Array Value}{x:Value}{Q:Value->Shared->Prop}(uU:HV k s.heap it t i)(ht:Bo k s.heap t items)(hx:items[i]?=⇑x)
  (hQ:∀ h',HV k h' it t (i+1)->Heap.SameBut it s.heap h'->Q x { s with heap:=h' }):wpAny (model prog w) A (Builtin.SmallTypes.nextOf ↥it) Q E s:=by
 cases k
 ·exact IV uU ht hx hQ
 ·exact wpAny_nextOf_list_item uU ht hx hQ
theorem CC{k:Bool}{it t:Addr}{i:Nat}{items:Array Value}{Q:Value->Shared->Prop}(hh:A.handled=none)(uU:HV k s.heap it t i)(ht:Bo k s.heap t items)(hx:items[i]?=none)
  (hE:∀ h' e,Heap.ExtBut it s.heap h'->(∃ o,h'.get? e=⇑o/\o.cls=.type "StopIteration")->E ↥e { s with heap:=h' }):wpAny (model prog w) A (Builtin.SmallTypes.nextOf ↥it) Q E s:=by
 cases k
 ·exact Mg hh uU ht hx hE
 ·exact wpAny_nextOf_list_end hh uU ht hx hE
abbrev CF(k:Bool)(l:Addr):Obj:={ cls:=.type (if k then "list_iterator" else "tuple_iterator"),data:=.fields #[↥l,.int 0 0] }
def UU{k:Bool}{xs:Array Value}{Q:Value->Shared->Prop}(h:Bo k s.heap l xs)(hQ:Q ↥s.heap.objs.size { s with heap:=s.heap.push (CF k l) }):wpAny (model prog w) A (pyIter ↥l) Q E s:=by
 cases k
 ·exact wpAny_pyIter_tuple h hQ
 ·exact wpAny_pyIter_list h hQ
structure CG(k:Bool)(h:Heap)(z TI TO i1 i2 l1 l2:Addr)(n:Nat):Prop where
 z:IsZip h z TI TO .none
 ti:IsPair h TI ↥i1 ↥i2
 to:∃ a b,IsPair h TO a b
 i1:HV k h i1 l1 n
 i2:HV k h i2 l2 n
theorem Mh{k:Bool}{z TI TO i1 i2 l1 l2:Addr}{n:Nat}{xs ys:Array Value}{x y:Value}{Q:Value->Shared->Prop}(D:ZipApart z TI TO i1 i2 l1 l2)(st:CG k s.heap z TI TO i1 i2 l1 l2 n)
  (HW:Bo k s.heap l1 xs) (Bu:Bo k s.heap l2 ys) (hx:xs[n]?=⇑x) (hy:ys[n]?=⇑y)
  (hQ:∀ h',IsZip h' z TI TO (rawInt s.heap.objs.size)->IsPair h' TO x y->HV k h' i1 l1 (n+1)->HV k h' i2 l2 (n+1)->IsPair h' s.heap.objs.size x y->
   (∀ c o,c≠z->c≠TO->c≠i1->c≠i2->s.heap.get? c=⇑o->h'.get? c=⇑o)->Q ↥s.heap.objs.size { s with heap:=h' }) :
  wpAny (model prog w) A (Builtin.«zip.__next__» ⟨[↥z],[]⟩) (λiS s'=>∃ v,iS=.done (.ret v)/\Q v s') E s:=by
 let⟨hz,hTI,⟨a,b,hTO⟩,h1,h2⟩:=st;show wpAny _ _ (field ↥z 2 >>= _) _ _ _;refine wpAny_bind (wpAny_field hz rfl (x:=.bool false) rfl ?_);show wpAny _ _ (field ↥z 3 >>= _) _ _ _;refine wpAny_bind (wpAny_field hz rfl (x:=↥TI) rfl (wpAny_bind (wpAny_seqItems hTI rfl ?_)));show wpAny _ _ (Builtin.SmallTypes.ownedTupleIsFree ↥z >>= _) _ _ _;refine wpAny_bind ?_;unfold Builtin.SmallTypes.ownedTupleIsFree;refine wpAny_bind (wpAny_field hz rfl (x:=.none) rfl (wpAny_pure ?_));simp only[if_true];refine wpAny_bind (wpAny_rule (wpAny_bind (wpAny_field hz rfl (x:=↥TO) rfl (wpAny_bind (wpAny_setField_rec hz (by simp) λg1 z1 c1=>?_)))))
 replace z1:IsZip g1 z TI TO .ellipsis:=z1
 refine wpAny_bind ?_;simp only[List.zipIdx_cons,List.zipIdx_nil,List.forIn_cons,List.forIn_nil];refine wpAny_bind (wpAny_bind (wpAny_onRaise ?_));show wpAny _ _ (Builtin.SmallTypes.nextOf ↥i1 >>= _) _ _ _;refine wpAny_bind (uV (h1.at λo e=>c1.extBut _ _ D.i1z e) (HW.at λo e=>c1.extBut _ _ D.l1z e) hx λg2 h12 c2=>wpAny_pure ?_);have o2:IsPair g2 TO a b:=c2.extBut _ _ D.TOi1 (c1.extBut _ _ D.TOz hTO);refine wpAny_bind (wpAny_seqItems o2 rfl (wpAny_bind (wpAny_updateSeq_pair o2 λg3 o3 c3=>?_)))
 replace o3:IsPair g3 TO x b:=o3
 refine wpAny_bind (wpAny_letGo (wpAny_pure (wpAny_bind (wpAny_bind (wpAny_onRaise ?_)))));show wpAny _ _ (Builtin.SmallTypes.nextOf ↥i2 >>= _) _ _ _;refine wpAny_bind (uV (((h2.at λo e=>c1.extBut _ _ D.i2z e).at λo e=>c2.extBut _ _ D.i12.symm e).at λo e=>c3.extBut _ _ D.TOi2.symm e) (((Bu.at λo e=>c1.extBut _ _ D.l2z e).at λo e=>c2.extBut _ _ D.l2i1 e).at λo e=>c3.extBut _ _ D.l2TO e) hy λg4 h24 c4=>wpAny_pure ?_);have o4:IsPair g4 TO x b:=c4.extBut _ _ D.TOi2 o3;refine wpAny_bind (wpAny_seqItems o4 rfl (wpAny_bind (wpAny_updateSeq_pair o4 λg5 o5 c5=>?_)))
 replace o5:IsPair g5 TO x y:=o5
 refine wpAny_bind (wpAny_letGo (wpAny_pure (wpAny_pure (wpAny_bind (wpAny_seqItems o5 rfl (wpAny_bind (wpAny_newTuple ?_)))))));have sz:g5.objs.size=s.heap.objs.size:=by rw[c5.1,c4.1,c3.1,c2.1,c1.1]
 have z5:IsZip g5 z TI TO .ellipsis:=c5.extBut _ _ D.TOz.symm (c4.extBut _ _ D.i2z.symm (c3.extBut _ _ D.TOz.symm (c2.extBut _ _ D.i1z.symm z1)));have k5:∀ c o,c≠z->c≠TO->c≠i1->c≠i2->s.heap.get? c=⇑o->g5.get? c=⇑o:=λc o n1 n2 n3 n4 e=>c5.extBut _ _ n2 (c4.extBut _ _ n4 (c3.extBut _ _ n2 (c2.extBut _ _ n3 (c1.extBut _ _ n1 e))));have h15:HV k g5 i1 l1 (n+1):=((h12.at λo e=>c3.extBut _ _ D.TOi1.symm e).at λo e=>c4.extBut _ _ D.i12 e).at λo e=>c5.extBut _ _ D.TOi1.symm e;have h25:HV k g5 i2 l2 (n+1):=h24.at λo e=>c5.extBut _ _ D.TOi2.symm e;have zlt:z<g5.objs.size:=Heap.lt_size z5;show wpAny _ _ (Builtin.SmallTypes.ownedTupleHandOut ↥z ↥g5.objs.size >>= _) _ _ _;refine wpAny_bind ?_;unfold Builtin.SmallTypes.ownedTupleHandOut;have z6:IsZip (g5.push { cls:=.type "tuple",data:=.seq #[x,y] }) z TI TO .ellipsis:=Heap.get?_push_of_some _ z5;refine wpAny_bind (wpAny_setField_rec z6 (by simp) λg7 z7 c7=>?_)
 replace z7:IsZip g7 z TI TO (rawInt g5.objs.size):=z7
 refine wpAny_setField_rec z7 (by simp) λg8 z8 c8=>?_
 replace z8:IsZip g8 z TI TO (rawInt g5.objs.size):=z8
 have up:∀ c o,c≠z->g5.get? c=⇑o->g8.get? c=⇑o:=λc o n1 e=>c8.extBut _ _ n1 (c7.extBut _ _ n1 (Heap.get?_push_of_some _ e));have t8:IsPair g8 g5.objs.size x y:=c8.extBut _ _ (Nat.ne_of_gt zlt) (c7.extBut _ _ (Nat.ne_of_gt zlt) (Heap.get?_push_size _ rfl));rw[sz]at z8 t8;refine wpAny_pure ⟨Y,?_⟩;show Q ↥g5.objs.size _;rw[sz];exact hQ g8 z8 (up _ _ D.TOz o5) (h15.at λo e=>up _ o D.i1z e) (h25.at λo e=>up _ o D.i2z e) t8 λc o n1 n2 n3 n4 e=>up c o n1 (k5 c o n1 n2 n3 n4 e)
theorem OJ{k:Bool}{z TI TO i1 i2 l1 l2:Addr}{n:Nat}{xs ys:Array Value}{Q:Fin->Shared->Prop}(hh:A.handled=none)(D:ZipApart z TI TO i1 i2 l1 l2)(st:CG k s.heap z TI TO i1 i2 l1 l2 n)
  (HW:Bo k s.heap l1 xs) (Bu:Bo k s.heap l2 ys) (WG:xs[n]?=none\/ys[n]?=none)
  (hE:∀ h' e,(∀ c o,c≠z->c≠TO->c≠i1->c≠i2->s.heap.get? c=⇑o->h'.get? c=⇑o)->(∃ o,h'.get? e=⇑o/\o.cls=.type "StopIteration")->E ↥e { s with heap:=h' }) :
  wpAny (model prog w) A (Builtin.«zip.__next__» ⟨[↥z],[]⟩) Q E s:=by
 let⟨hz,hTI,⟨a,b,hTO⟩,h1,h2⟩:=st;show wpAny _ _ (field ↥z 2 >>= _) _ _ _;refine wpAny_bind (wpAny_field hz rfl (x:=.bool false) rfl ?_);show wpAny _ _ (field ↥z 3 >>= _) _ _ _;refine wpAny_bind (wpAny_field hz rfl (x:=↥TI) rfl (wpAny_bind (wpAny_seqItems hTI rfl ?_)));show wpAny _ _ (Builtin.SmallTypes.ownedTupleIsFree ↥z >>= _) _ _ _;refine wpAny_bind ?_;unfold Builtin.SmallTypes.ownedTupleIsFree;refine wpAny_bind (wpAny_field hz rfl (x:=.none) rfl (wpAny_pure ?_));simp only[if_true];refine wpAny_bind (wpAny_rule (wpAny_bind (wpAny_field hz rfl (x:=↥TO) rfl (wpAny_bind (wpAny_setField_rec hz (by simp) λg1 z1 c1=>?_)))))
 replace z1:IsZip g1 z TI TO .ellipsis:=z1
 refine wpAny_bind ?_;simp only[List.zipIdx_cons,List.zipIdx_nil,List.forIn_cons,List.forIn_nil];refine wpAny_bind (wpAny_bind (wpAny_onRaise ?_));show wpAny _ _ (Builtin.SmallTypes.nextOf ↥i1 >>= _) _ _ _
 cases hx:xs[n]? with
 | none =>
  refine wpAny_bind (CC hh (h1.at λo e=>c1.extBut _ _ D.i1z e) (HW.at λo e=>c1.extBut _ _ D.l1z e) hx λg2 e c2 he=>?_);let⟨oe,WH,hce⟩:=he;have z2:IsZip g2 z TI TO .ellipsis:=c2 _ _ D.i1z.symm z1;have hez:e≠z:=λx=>by subst x;rw[z2]at WH;cases WH;simp at hce
  exact wpAny_setField_rec z2 (by simp) λg3 _ c3=>hE g3 e (λc o n1 _ n3 _ x=>c3.extBut _ _ n1 (c2 _ _ n3 (c1.extBut _ _ n1 x))) ⟨oe,c3.extBut _ _ hez WH,hce⟩
 | some x =>
  have hy:ys[n]?=none:=by rcases WG with h|h;(rw[hx]at h;cases h);exact h
  refine wpAny_bind (uV (h1.at λo e=>c1.extBut _ _ D.i1z e) (HW.at λo e=>c1.extBut _ _ D.l1z e) hx λg2 h12 c2=>wpAny_pure ?_);have o2:IsPair g2 TO a b:=c2.extBut _ _ D.TOi1 (c1.extBut _ _ D.TOz hTO);refine wpAny_bind (wpAny_seqItems o2 rfl (wpAny_bind (wpAny_updateSeq_pair o2 λg3 o3 c3=>?_)));refine wpAny_bind (wpAny_letGo (wpAny_pure (wpAny_bind (wpAny_bind (wpAny_onRaise ?_)))));show wpAny _ _ (Builtin.SmallTypes.nextOf ↥i2 >>= _) _ _ _;refine wpAny_bind (CC hh (((h2.at λo e=>c1.extBut _ _ D.i2z e).at λo e=>c2.extBut _ _ D.i12.symm e).at λo e=>c3.extBut _ _ D.TOi2.symm e) (((Bu.at λo e=>c1.extBut _ _ D.l2z e).at λo e=>c2.extBut _ _ D.l2i1 e).at λo e=>c3.extBut _ _ D.l2TO e) hy λg4 e c4 he=>?_);let⟨oe,WH,hce⟩:=he;have z4:IsZip g4 z TI TO .ellipsis:=c4 _ _ D.i2z.symm (c3.extBut _ _ D.TOz.symm (c2.extBut _ _ D.i1z.symm z1));have hez:e≠z:=λx=>by subst x;rw[z4]at WH;cases WH;simp at hce
  exact wpAny_setField_rec z4 (by simp) λg5 _ c5=>hE g5 e (λc o n1 n2 n3 n4 x=>c5.extBut _ _ n1 (c4 _ _ n4 (c3.extBut _ _ n2 (c2.extBut _ _ n3 (c1.extBut _ _ n1 x))))) ⟨oe,c5.extBut _ _ hez WH,hce⟩
theorem IW{k:Bool}{z TI TO i1 i2 l1 l2:Addr}{n:Nat}{xs ys:Array Value}{x y:Value}{Q:Option Value->Shared->Prop}(D:ZipApart z TI TO i1 i2 l1 l2)(st:CG k s.heap z TI TO i1 i2 l1 l2 n)
  (HW:Bo k s.heap l1 xs) (Bu:Bo k s.heap l2 ys) (hx:xs[n]?=⇑x) (hy:ys[n]?=⇑y)
  (hQ:∀ h',IsZip h' z TI TO (rawInt s.heap.objs.size)->IsPair h' TO x y->HV k h' i1 l1 (n+1)->HV k h' i2 l2 (n+1)->IsPair h' s.heap.objs.size x y->
   (∀ c o,c≠z->c≠TO->c≠i1->c≠i2->s.heap.get? c=⇑o->h'.get? c=⇑o)->Q (⇑↥s.heap.objs.size) { s with heap:=h' }):wpAny (model prog w) A (pyNext ↥z) Q E s:=by
 have hT:s.TypeIs ↥z "zip":=⟨_,st.z,rfl⟩;unfold pyNext;exact wpAny_bind (wpAny_attempt (wpAny_callSpecial?_slot (name:=Str.ofString "__next__") hT F.slot_zip_next (wpAny_call_entry F.slot_zip_next hT F.entry_zip_next (Mh D st HW Bu hx hy λh' a1 a2 a3 a4 a5 a7=>wpAny_pure (hQ h' a1 a2 a3 a4 a5 a7)) (F.args_zip_next_1 _))))
theorem Mi{k:Bool}{z TI TO i1 i2 l1 l2:Addr}{n:Nat}{xs ys:Array Value}{Q:Option Value->Shared->Prop}(hh:A.handled=none)(D:ZipApart z TI TO i1 i2 l1 l2)(st:CG k s.heap z TI TO i1 i2 l1 l2 n)
  (HW:Bo k s.heap l1 xs) (Bu:Bo k s.heap l2 ys) (WG:xs[n]?=none\/ys[n]?=none)
  (hQ:∀ h',(∀ c o,c≠z->c≠TO->c≠i1->c≠i2->s.heap.get? c=⇑o->h'.get? c=⇑o)->Q none { s with heap:=h' }):wpAny (model prog w) A (pyNext ↥z) Q E s:=by
 have hT:s.TypeIs ↥z "zip":=⟨_,st.z,rfl⟩;unfold pyNext;refine wpAny_bind (wpAny_attempt (wpAny_callSpecial?_slot (name:=Str.ofString "__next__") hT F.slot_zip_next (wpAny_call_entry F.slot_zip_next hT F.entry_zip_next (OJ hh D st HW Bu WG λh' e hk he=>?_) (F.args_zip_next_1 _))));let⟨o,ho,hc⟩:=he;exact wpAny_bind (wpAny_isInstance (T:="StopIteration") (b:=true) ⟨o,ho,hc⟩ isSubtype_stop (wpAny_pure (hQ _ hk)))
end
abbrev zH1(k:Bool)(h:Heap)(l1:Addr):Heap:=h.push (CF k l1)
abbrev zH2(k:Bool)(h:Heap)(l1 l2:Addr):Heap:=(zH1 k h l1).push (CF k l2)
abbrev zH3(k:Bool)(h:Heap)(l1 l2:Addr):Heap:=(zH2 k h l1 l2).push { cls:=.type "tuple",data:=.seq #[↥h.objs.size,.ref (zH1 k h l1).objs.size] }
abbrev zH4(k:Bool)(h:Heap)(l1 l2:Addr):Heap:=(zH3 k h l1 l2).push { cls:=.type "tuple",data:=.seq #[.none,.none] }
abbrev YL(k:Bool)(h:Heap)(l1 l2:Addr):Heap:=(zH4 k h l1 l2).push { cls:=.type "zip",data:=.fields #[.none,.bool false,.bool false,.ref (zH2 k h l1 l2).objs.size,.ref (zH3 k h l1 l2).objs.size] }
theorem IX(k:Bool)(l1 l2:Addr)(xs ys:Array Value) :
  Meets (Builtin.«zip.__new__» ⟨[.type "zip",↥l1,↥l2],[]⟩) (λ_ R s=>Bo k s.heap l1 xs/\Bo k s.heap l2 ys/\R (.ok (.ret (.ref (zH4 k s.heap l1 l2).objs.size))) { s with heap:=YL k s.heap l1 l2 }) :=
 .of_wp λprog w A R s h=>by
  let⟨hp,g,d,tk,os⟩:=s;let⟨HW,Bu,h⟩:=h;have hsub:=sub_zip;have hL1:Bo k (Shared.heap ⟨hp,g,d,tk,os⟩) l1 xs:=HW;have hL2:Bo k (Shared.heap ⟨hp.push (CF k l1),g,d,tk,os⟩) l2 ys:=Bu.at λo e=>Heap.get?_push_of_some _ e
  wp_walk using UU hL1,UU hL2
  exact⟨Y,h⟩
section
variable {prog:Program} {w:World} {A:Around} {E:Value->Shared->Prop} {s:Shared}
theorem Mj{k:Bool}{l1 l2:Addr}{xs ys:Array Value}{Q:Value->Shared->Prop}(HW:Bo k s.heap l1 xs)(Bu:Bo k s.heap l2 ys)
  (h:∀ h',CG k h' (s.heap.objs.size+4) (s.heap.objs.size+2) (s.heap.objs.size+3) s.heap.objs.size (s.heap.objs.size+1) l1 l2 0->(∀ c o,s.heap.get? c=⇑o->h'.get? c=⇑o)->Q (.ref (s.heap.objs.size+4)) { s with heap:=h' }) :
  wpAny (model prog w) A (call (.type "zip") [↥l1,↥l2]) Q E s:=by
 refine callType_new F.called_zip (by decide) (F.typeCall_zip_2 _ _) (F.newCall_zip_2 _ _) (λobj=>F.args_object_init_3 obj _ _) F.entry_zip_new (IX k l1 l2 xs ys) ⟨HW,Bu,?_⟩;have z1:(zH1 k s.heap l1).objs.size=s.heap.objs.size+1:=Heap.size_push ..;have z2:(zH2 k s.heap l1 l2).objs.size=s.heap.objs.size+2:=by rw[Heap.size_push,z1]
 have z3:(zH3 k s.heap l1 l2).objs.size=s.heap.objs.size+3:=by rw[Heap.size_push,z2]
 have z4:(zH4 k s.heap l1 l2).objs.size=s.heap.objs.size+4:=by rw[Heap.size_push,z3]
 have g5:(YL k s.heap l1 l2).get? (zH4 k s.heap l1 l2).objs.size=⇑_:=Heap.get?_push_size _ rfl;have g4:(YL k s.heap l1 l2).get? (zH3 k s.heap l1 l2).objs.size=⇑_:=Heap.get?_push_of_some _ (Heap.get?_push_size _ rfl);have g3:(YL k s.heap l1 l2).get? (zH2 k s.heap l1 l2).objs.size=⇑_:=Heap.get?_push_of_some _ (Heap.get?_push_of_some _ (Heap.get?_push_size _ rfl));have g2:(YL k s.heap l1 l2).get? (zH1 k s.heap l1).objs.size=⇑(CF k l2):=Heap.get?_push_of_some _ (Heap.get?_push_of_some _ (Heap.get?_push_of_some _ (Heap.get?_push_size _ rfl)));have g1:(YL k s.heap l1 l2).get? s.heap.objs.size=⇑(CF k l1):=Heap.get?_push_of_some _ (Heap.get?_push_of_some _ (Heap.get?_push_of_some _ (Heap.get?_push_of_some _ (Heap.get?_push_size _ rfl))));show _/\_;rw[z2,z3,z4]at g5;rw[z1,z2]at g3;rw[z3]at g4;rw[z1]at g2;rw[z4];refine⟨⟨_,g5,rfl⟩,h _ ⟨g5,g3,⟨E,g4⟩,?_,?_⟩ λc o x=>Heap.get?_push_of_some _ (Heap.get?_push_of_some _ (Heap.get?_push_of_some _ (Heap.get?_push_of_some _ (Heap.get?_push_of_some _ x))))⟩
 ·cases k
  ·exact⟨_,g1,K⟩
  ·exact⟨_,g1,K⟩
 ·cases k
  ·exact⟨_,g2,K⟩
  ·exact⟨_,g2,K⟩
end
def KZ(K:Frag)(k:Bool)(H:Hp)(a:Addr)(xs:List V):Prop:=match k with
 | true=>bG K H a xs
 | false=>cW K H a xs
def xy{X:Cx}{σ:L2.St}{H:Hp}{s:Shared}{k:Bool}{a:Addr}{xs:List V}(I:Inv X ao σ H s)(h:KZ X.K k H a xs):∃ aP:List Value,b8 xs aP/\Bo k s.heap a aP.toArray/\↑xs<=sizeLine:=by
 cases k
 ·let⟨aP,r,p,z⟩:=I.tuple h;exact⟨aP,r,p,z⟩
 ·let⟨aP,r,p,z⟩:=I.list h;exact⟨aP,r,p.isList,z⟩
def K0{X:Cx}{σ:L2.St}{H:Hp}{s:Shared}{k:Bool}{a:Addr}{xs ys:List V}(I:Inv X ao σ H s)(h:KZ X.K k H a xs)(h':KZ X.K k H a ys):xs=ys:=by
 cases k
 ·exact I.Cm h h'
 ·exact I.Fo h h'
def OL{k:Bool}{h:Heap}{a:Addr}{xs:Array Value}(x:Bo k h a xs):a<h.objs.size:=by
 cases k
 ·let⟨o,ho,_⟩:=x;exact Heap.lt_size ho
 ·let⟨o,ho,_⟩:=x;exact Heap.lt_size ho
def Itz(K:Frag)(k:Bool)(a1 a2:Addr):It :=
 ⟨λi H=>∃ xs ys x y,KZ K k H a1 xs/\KZ K k H a2 ys/\xs[i]?=⇑x/\ys[i]?=⇑y,λi H v H'=>∃ p x y,H p=none/\v=↥p/\H'=aN H p (.tup [x,y])/\(∀ xs,KZ K k H a1 xs->xs[i]?=⇑x)/\∀ ys,KZ K k H a2 ys->ys[i]?=⇑y,λi H=>∃ xs ys,KZ K k H a1 xs/\KZ K k H a2 ys/\(↑xs<=i\/↑ys<=i)⟩
theorem OM{P:Program}{w:World}{K:Frag}{x1:Nat}{k:Bool}{z TI TO i1 i2 l1 l2:Addr}(D:ZipApart z TI TO i1 i2 l1 l2) :
  Ip P w K (.Tuple WI x1 LY) (Itz K k l1 l2) [z,TI,TO,i1,i2] z (λi h=>CG k h z TI TO i1 i2 l1 l2 i) where
 mem:=by simp
 obj:=λi h st b hb=>by
  let⟨hz,hTI,⟨a,c,hTO⟩,h1,h2⟩:=st;simp only[List.mem_cons,List.not_mem_nil,or_false]at hb;rcases hb with rfl|rfl|rfl|rfl|rfl
  ·exact⟨_,hz,λv e=>by cases e⟩
  ·exact⟨_,hTI,λv e=>by cases e⟩
  ·exact⟨_,hTO,λv e=>by cases e⟩
  ·exact h1.obj
  ·exact h2.obj
 keep:=λi h h' st kk=>by
  let⟨hz,hTI,⟨a,c,hTO⟩,h1,h2⟩:=st;exact⟨kk z (by simp) _ hz,kk TI (by simp) _ hTI,⟨a,c,kk TO (by simp) _ hTO⟩,h1.at λo e=>kk i1 (by simp) o e,h2.at λo e=>kk i2 (by simp) o e⟩
 item:=by
  intro X hP hw hK hc i ao s σ H E I hf st hg;subst hP hw hK;let⟨xs,ys,x,y,q1,q2,e1,e2⟩:=hg;let⟨us,r1,p1,_⟩:=xy I q1;let⟨vs,r2,p2,_⟩:=xy I q2;let⟨u,eu,ru⟩:=r1.get e1;let⟨v,ev,rv⟩:=r2.get e2;refine IW (x:=u) (y:=v) D st p1 p2 (by simpa using eu) (by simpa using ev) λh' g1 g2 g3 g4 g5 g7=>?_;refine⟨Y,wpAny_letOwnedTupleGo_zip g1 λh2 hz2 c2=>?_⟩;have ne:∀ {b o},s.heap.get? b=⇑o->s.heap.objs.size≠b:=λe=>Nat.ne_of_gt (Heap.lt_size e)
  have k2:∀ b o,b∉[z,TI,TO,i1,i2]->s.heap.get? b=⇑o->h2.get? b=⇑o:=λb o hb e=>by
   simp only[List.mem_cons,List.not_mem_nil,or_false,not_or]at hb;exact c2.extBut _ _ hb.1 (g7 b o hb.1 hb.2.2.1 hb.2.2.2.1 hb.2.2.2.2 e)
  have I2:Inv X ao σ (aN H s.heap.objs.size (.tup [x,y])) { s with heap:=h2,toks:=s.toks } := Z9 I k2 hf (fK _) (by show 2<=sizeLine;decide) (.cons ru (.cons rv .nil)) ⟨_,c2.extBut _ _ (ne st.z) g5,rfl,Y⟩;refine⟨↥s.heap.objs.size,_,I2,rfl,⟨_,x,y,I.hok.fresh (fK _),K,λxs' q=>?_,λys' q=>?_⟩,?_,λb hb=>?_⟩
  ·rw[K0 I q q1];exact e1
  ·rw[K0 I q q2];exact e2
  ·exact⟨hz2,c2.extBut _ _ D.TIz (g7 _ _ D.TIz D.TITO D.TIi1 D.TIi2 st.ti),⟨u,v,c2.extBut _ _ D.TOz g2⟩,g3.at λo e=>c2.extBut _ _ D.i1z e,g4.at λo e=>c2.extBut _ _ D.i2z e⟩
  ·have qP:∃ o,s.heap.get? b=⇑o:=by
    let⟨hz,hTI,⟨a,c,hTO⟩,h1,h2⟩:=st;simp only[List.mem_cons,List.not_mem_nil,or_false]at hb;rcases hb with rfl|rfl|rfl|rfl|rfl
    ·exact⟨_,hz⟩
    ·exact⟨_,hTI⟩
    ·exact⟨_,hTO⟩
    ·exact h1.obj.imp λ_ e=>e.1
    ·exact h2.obj.imp λ_ e=>e.1
   let⟨o,e⟩:=qP;rw[aL (ne e).symm];exact (hf b hb).1
 done:=by
  intro X hP hw hK hc i ao s σ H E I hf st hg;subst hP hw hK;let⟨xs,ys,q1,q2,e⟩:=hg;let⟨us,r1,p1,_⟩:=xy I q1;let⟨vs,r2,p2,_⟩:=xy I q2;have l1:=↑r1;have l2:=↑r2;refine Mi (I.ok.hd hc) D st p1 p2 (e.imp (λe=>by simp;lia) (λe=>by simp;lia)) λh' kk=>⟨rfl,Sb (t':=s.toks) (ch:=[z,TI,TO,i1,i2]) I (λb o hb e=>?_) hf⟩;simp only[List.mem_cons,List.not_mem_nil,or_false,not_or]at hb;exact kk b o hb.1 hb.2.2.1 hb.2.2.2.1 hb.2.2.2.2 e
 self:=λ_ _ _ _ _ st h=>wpAny_pyIter_zip st.z h
def aes(K:Frag)(ta:TA):TI:=fun σ H R=>ta σ H λvs H1=>∃ k a1 a2 xs ys,vs=[↥a1,↥a2]/\KZ K k H1 a1 xs/\KZ K k H1 a2 ys/\R (Itz K k a1 a2) H1
theorem WJ{X:Cx}{x1:Nat}{a b:Expr}{ta:TA}{p:Pos}(hg:Gl X "zip")(hm:X.mg "zip"=none)(ha:PA X [a,b] ta)
  (hs:starEach [a,b] X.env=[(false,eval a X.env),(false,eval b X.env)]:=by rfl) (HU:starEach [b] X.env=[(false,eval b X.env)]:=by rfl):PI X (.Tuple WI x1 LY) (.Call (.Name "zip" p) [a,b] [] pos) (aes X.K ta):=by
 intro ao s σ H R I h;refine Call_ (wU I hg hm boot_zip (PyProof.Rows.callWith_type1 (c9 (ha pos ao s σ H _ I h) λus s1 ⟨vs,H1,I1,r1,q1⟩=>?_) (by rw[hs,HU]) (by rw[HU];rfl)));let⟨k,a1,a2,xs,ys,e,q1,q2,q⟩:=q1;subst e;let⟨u1,u2,rfl,e1,e2⟩:=r1.two;cases (show u1=Value.ref a1 from e1);cases (show u2=Value.ref a2 from e2);let⟨us,rr1,p1,_⟩:=xy I1 q1;let⟨ws,rr2,p2,_⟩:=xy I1 q2;have b1:=OL p1;have b2:=OL p2;refine Mj p1 p2 λh' st kk=>wpAny_pyIter_zip st.z ?_;have I2:Inv X ao σ H1 { s1 with heap:=h',toks:=s1.toks }:=I1.kept kk;refine⟨Q,_,H1,rfl,I2,OM (zipApart_new b1 b2),st,λb hb=>?_,q⟩
 have hb':s1.heap.objs.size<=b:=by
  simp only[List.mem_cons,List.not_mem_nil,or_false]at hb;rcases hb with rfl|rfl|rfl|rfl|rfl
  ·exact Nat.le_add_right _ _
  ·exact Nat.le_add_right _ _
  ·exact Nat.le_add_right _ _
  ·exact fK _
  ·exact Nat.le_add_right _ _
 exact I1.LQ hb' (I1.hok.fresh hb')
theorem Se{K:Frag}{k:Bool}{a1 a2:Addr}{xs ys:List V}{g:TG}{tb:TS}{D:Ends}{σ:L2.St}{H:Hp}(Pv:Nat->L2.St->Hp->Prop)(hn:↑xs=↑ys)(h0:Pv 0 σ H)
  (hl:∀ i σ H,i<=↑xs->Pv i σ H->KZ K k H a1 xs/\KZ K k H a2 ys)
  (hs:∀ i x y p σ H,xs[i]?=⇑x->ys[i]?=⇑y->H p=none->Pv i σ H->g ↥p σ (aN H p (.tup [x,y])) fun σ2 H2=>tb { D with nx:=Pv (i+1),ct:=Pv (i+1),bk:=D.nx } σ2 H2) (hd:∀ σ H,Pv ↑xs σ H->D.nx σ H) :
  ∃ W:Nat->Nat->L2.St->Hp->Prop,(∃ m,W 0 m σ H)/\∀ i m σ H,W i m σ H->
   ((Itz K k a1 a2).stop i H/\D.nx σ H)\/((Itz K k a1 a2).go i H/\∃ N:L2.St->Hp->Prop,(∀ σ' H',N σ' H'->∃ m',m'<m/\W (i+1) m' σ' H')/\∀ x H',(Itz K k a1 a2).N7 i H x H'->g x σ H' fun σ2 H2=>tb { D with nx:=N,ct:=N,bk:=D.nx } σ2 H2):=by
 refine⟨λi m σ H=>m=↑xs-i/\i<=↑xs/\Pv i σ H,⟨↑xs,by simp,Nat.zero_le _,h0⟩,?_⟩;rintro i m σ H ⟨rfl,hi,p⟩;let⟨q1,q2⟩:=hl i σ H hi p;by_cases qP:i<↑xs
 ·have aet:i<↑ys:=by lia
  refine .inr ⟨⟨xs,ys,xs[i],ys[i],q1,q2,by simp[qP],by simp[aet]⟩,Pv (i+1),fun σ' H' p'=>⟨↑xs-(i+1),by lia,rfl,qP,p'⟩,λx H' y=>?_⟩;let⟨a,x',y',hn',rfl,rfl,e1,e2⟩:=y;exact hs i x' y' a σ _ (e1 xs q1) (e2 ys q2) hn' p
 ·have e:i=↑xs:=by lia
  subst e;exact .inl ⟨⟨xs,ys,q1,q2,.inl (fK _)⟩,hd σ H p⟩
def CH(lo:Int)(n:Nat):List V:=(List.range n).map λi:Nat=>V.int (lo+i)
section
variable {X:Cx}
def FD:jA X (.type "range") (λxs H Q=>∃ i j:Int,xs=[.int i,.int j]/\∀ p,H p=none->Q ↥p (aN H p (.Fd i j))):=by
 intro ao s σ H xs us Q I r h;let⟨i,j,rfl,q⟩:=h;let⟨u1,u2,rfl,⟨t,rfl⟩,⟨t',rfl⟩⟩:=r.two;refine call_range_2 ⟨↥s.heap.objs.size,_,I.laid (o:=.Fd i j) (λb o e=>Heap.get?_push_of_some _ e) (fK _) ⟨t,t',s.toks,Heap.get?_push_size _ rfl⟩,rfl,q _ (I.hok.fresh (fK _))⟩
theorem t6(hc:X.calm=true):jA X (.type "list") (λxs H Q=>∃ p i j,xs=[↥p]/\H p=⇑(.Fd i j)/\(-(2^62)<=i/\i<2^62/\-(2^62)<=j/\j<2^62)/\(j-i).toNat<=sizeLine/\
  ∀ l,H l=none->Q ↥l (aN H l (.lst (CH i (j-i).toNat)))):=by
 intro ao s σ H xs us Q I r h;let⟨p,i,j,rfl,hp,⟨b1,b2,b3,b4⟩,hz,q⟩:=h;let⟨u,rfl,rx⟩:=r.one;cases (show u=Value.ref p from rx);let⟨t,u,v,e⟩:=(show fC X.prog X.w H s.heap p (.Fd i j) from I.hok p _ hp)
 have e2:Builtin.Range.rangeSize i j 1=(((j-i).toNat:Nat):Int):=by rw[rangeSize_one];split <;> lia
 have hz':(j-i).toNat<=2^24:=by have:=sizeLine_eq;lia
 refine call_list_range (I.ok.hd hc) e (small_one b1 b2 b3 b4) e2 hz' λh' tk qK c' hk hS cP=>?_;refine⟨↥s.heap.objs.size,_,I.laid (o:=.lst (CH i (j-i).toNat)) (t':=tk) hk (fK _) ⟨?_,qK.toList,c',?_,by simpa using hS⟩,rfl,q _ (I.hok.fresh (fK _))⟩
 ·unfold CH;simpa using hz
 ·have hl:↑qK.toList=(j-i).toNat:=by simpa using cP.1
  have key:∀ (n:Nat) (us:List Value) (lo:Int),↑us=n->(∀ k v,us[k]?=⇑v->∃ t,v=Value.int (lo+(k:Nat)*1) t)->b8 ((List.range n).map λi:Nat=>V.int (lo+i)) us:=by
   intro n
   induction n with
   | zero=>intro us lo hl _;cases us with
    | nil=>exact .nil
    | cons=>simp at hl
   | succ n ih =>
    intro us lo hl hv
    cases us with
    | nil=>simp at hl
    | cons u us =>
     rw[List.range_succ_eq_map,jy,List.map_map];refine .cons ?_ ?_
     ·let⟨t,e⟩:=hv 0 u rfl;exact⟨t,by rw[e];simp⟩
     ·have:=ih us (lo+1) (by simpa using hl) λk v e=>by
       let⟨t,e'⟩:=hv (k+1) v (by simpa using e);exists t;rw[e'];have:lo+((k+1:Nat):Int)*1=lo+1+(k:Int)*1:=by lia
       rw[this]
      have e3:((λi:Nat=>V.int (lo+i)) ∘ Nat.succ)=λi:Nat=>V.int (lo+1+i):=by
       funext i;simp only[Function.comp,Nat.succ_eq_add_one];have:lo+((i+1:Nat):Int)=lo+1+(i:Int):=by lia
       rw[this]
      rw[e3];exact this
  exact key _ _ i hl λk v e=>cP.2 k v (by simpa using e)
end
section
variable {X:Cx}
def ON{j:Int}(h0:0<j)(h1:j<10^70):j.natAbs.log2<9000:=by
 have h:j.natAbs<2^9000:=Nat.lt_trans (show j.natAbs<10^70 by lia) nofun;exact (Nat.log2_lt ∅).mpr h
theorem Aa:uA X (binaryOp .FloorDiv) (rI (λ_ j=>0<j/\j<10^70) λi j=>.int (i / j)):=opI λi j _ _ _ _ _ hc q=>by
 have h1:(0:Int)<j:=hc.1;exact floordiv_int ∅ (by rw[Int.fdiv_eq_ediv_of_nonneg i ∅];exact q) (.inl (PyProof.noPylong_of_log2 (ON hc.1 hc.2)))
def FE(hc:X.calm=true):jA X (.builtin "sum") (λxs H Q=>∃ (p:Addr) (ns:List Int),xs=[↥p]/\bG X.K H p (ns.map V.int)/\Q (.int ns.sum) H):=by
 intro ao s σ H xs us Q I r h;let⟨p,ns,rfl,hq,q⟩:=h;let⟨u,rfl,rx⟩:=r.one;cases (show u=Value.ref p from rx);let⟨aP,rv,pl,hz⟩:=I.list hq;have hi:IntsAre aP ns:=intsAre_of rv;have Oz:AllInts aP.toArray:=hi.allInts;let⟨zs,ez⟩:=Oz.items;have hl:=pl.isList;have es:(numsOf aP.toArray.toList).sum=ns.sum:=by rw[show aP.toArray.toList=aP from rfl,hi.numsOf]
 rw[ez]at hl es;rw[nums_intItems]at es;refine PySem.sum_intListG (I.ok.hd hc) hl λh' tk t' hk=>⟨.int ns.sum,H,I.kept hk,⟨t',?_⟩,q⟩;rw[preSum_eq,uv (by simp),es]
end
end cX
namespace gB
abbrev Row:=List (Int × Int)
def jw(t:Row)(s e:Int):Row :=
 match t.getLast? with
 | some p=>if p.2=s then t.dropLast++[(p.1,e)] else t++[(s,e)]
 | none=>t++[(s,e)]
def ef(t:Row)(p:Int × Int):Row:=if p.1=p.2 then t else jw t p.1 p.2
def cy(r:Row):Row:=r.foldl ef []
def run(s:Int):Nat->List Int
 | 0=>[]
 | n+1=>s::run (s+1) n
def jG(p:Int × Int):List Int:=run p.1 (p.2-p.1).toNat
def bK(r:Row):List Int:=r.flatMap jG
def cF(ns:List Int):Row:=ns.foldl (λt n=>jw t n (n+1)) []
def fD(s:Int)(n:Nat):↑(run s n)=n:=by
 induction n generalizing s with
 | zero=>rfl
 | succ n ih=>simp[run,ih]
theorem oQ(s e:Int):jw [] s e=[(s,e)]:=rfl
def oR(t:Row){q:Int × Int}{s:Int}{e:Int}(h:q.2=s):jw (t++[q]) s e=t++[(q.1,e)]:=by
 simp[jw,h]
def oS(t:Row){q:Int × Int}{s:Int}{e:Int}(h:¬ q.2=s):jw (t++[q]) s e=t++[q]++[(s,e)]:=by
 simp[jw,h]
def Ml(t:Row)(a s e:Int):jw (t++[(a,s)]) s e=t++[(a,e)]:=by
 simp[jw]
def Ab(t:Row)(a s:Int)(n:Nat):(run s n).foldl (λt n=>jw t n (n+1)) (t++[(a,s)])=t++[(a,s+n)]:=by
 induction n generalizing s with
 | zero=>simp[run]
 | succ n ih =>
  rw[run,mh,Ml,ih];have:s+1+(n:Int)=s+((n+1:Nat):Int):=by lia
  rw[this]
def OO(t:Row)(p:Int × Int)(h:p.1<=p.2):ef t p=(jG p).foldl (λt n=>jw t n (n+1)) t:=by
 let⟨s,e⟩:=p;simp only at h;unfold ef jG;by_cases he:s=e
 ·subst he;simp[run]
 ·obtain⟨n,hn⟩:∃ n:Nat,e=s+1+n:=⟨(e-s-1).toNat,by lia⟩;subst hn;rw[if_neg he];have h2:((s,s+1+(n:Int)).2-(s,s+1+(n:Int)).1).toNat=n+1:=by simp only;lia
  rw[h2,run,mh];simp only;rcases qG t with rfl|⟨u,q,rfl⟩
  ·rw[oQ,oQ];exact (Ab [] s (s+1) n).symm
  ·by_cases hq:q.2=s
   ·rw[nK,oR u hq,oR u hq,Ab]
   ·rw[nK,oS u hq,oS u hq,Ab]
theorem mK{α β γ:Type}(f:γ->β->γ)(g:α->List β):∀ (l:List α) (c:γ),(l.flatMap g).foldl f c=l.foldl (λc a=>(g a).foldl f c) c
 | [],_=>rfl
 | a::l,c=>by rw[iT,List.foldl_append,mh,mK f g l]
def vK(r:Row)(h:∀ p∈r,p.1<=p.2):cy r=cF (bK r):=by
 unfold cy cF bK;rw[mK]
 have key:∀ (r:Row),(∀ p∈r,p.1<=p.2)->∀ t:Row,r.foldl ef t=r.foldl (λc a=>(jG a).foldl (λt n=>jw t n (n+1)) c) t:=by
  intro r
  induction r with
  | nil=>intro _ t;rfl
  | cons p r ih =>
   intro h t;rw[mh,mh,OO t p (h p (wO ..))];exact ih (λq hq=>h q (nI _ hq)) _
 exact key r h []
def yC(t:Row)(s e:Int):↑(jw t s e)<=↑t+1:=by
 rcases qG t with rfl|⟨u,q,rfl⟩
 ·rw[oQ];simp
 ·by_cases hq:q.2=s
  ·rw[nK,oR u hq];simp
  ·rw[nK,oS u hq];simp
def foldl_take_succ{α β:Type}(f:β->α->β)(l:List α)(b:β)(i:Nat)(x:α)(h:l[i]?=⇑x):(l.take (i+1)).foldl f b=f ((l.take i).foldl f b) x:=by
 rw[List.take_add_one,h,List.foldl_append];rfl
end gB
namespace gB
def i7(r:Row):Int:=(r.map λp=>p.2-p.1).sum
theorem Sf:i7 []=0:=rfl
def FF(p:Int × Int)(r:Row):i7 (p::r)=(p.2-p.1)+i7 r:=by simp[i7]
def OP(r:Row)(p:Int × Int):i7 (r++[p])=i7 r+(p.2-p.1):=by simp[i7]
def Ac(r q:Row):i7 (r++q)=i7 r+i7 q:=by simp[i7]
def take_snoc{α:Type}{l:List α}{i:Nat}{x:α}(h:l[i]?=⇑x):l.take (i+1)=l.take i++[x]:=by rw[List.take_add_one,h];rfl
end gB
namespace gB
def oU(s:Int)(n:Nat):run s (n+1)=run s n++[s+n]:=by
 induction n generalizing s with
 | zero=>simp[run]
 | succ n ih =>
  rw[run,ih,run];have:s+1+(n:Int)=s+((n+1:Nat):Int):=by lia
  rw[this];rfl
def CJ{a n:Int}(h:a<=n):jG (a,n+1)=jG (a,n)++[n]:=by
 unfold jG;have e:((a,n+1).2-(a,n+1).1).toNat=((a,n).2-(a,n).1).toNat+1:=by simp only;lia
 rw[e,oU];have:a+((((a,n).2-(a,n).1).toNat:Nat):Int)=n:=by simp only;lia
 simp only at this ⊢;rw[this]
def FG(n:Int):jG (n,n+1)=[n]:=by
 have:=CJ (a:=n) (n:=n) (Int.le_refl _);rw[this];have e:jG (n,n)=[]:=by unfold jG;simp[run]
 rw[e];rfl
def cZ(r q:Row):bK (r++q)=bK r++bK q:=by unfold bK;rw[yQ]
def gw(p:Int × Int):bK [p]=jG p:=by simp[bK]
def IY(t:Row)(n:Int)(h:∀ p∈t,p.1<=p.2):bK (jw t n (n+1))=bK t++[n]:=by
 rcases qG t with rfl|⟨u,q,rfl⟩
 ·rw[oQ,gw,FG];rfl
 ·rw[nK]at h ⊢;by_cases hq:q.2=n
  ·let⟨a,b⟩:=q;simp only at hq;subst hq;have hb:a<=b:=h (a,b) (by simp);rw[oR u rfl,cZ,cZ,gw,gw,CJ hb,m8]
  ·rw[oS u hq,cZ,gw,FG]
def La(t:Row)(n:Int)(h:∀ p∈t,p.1<=p.2):∀ p∈jw t n (n+1),p.1<=p.2:=by
 rcases qG t with rfl|⟨u,q,rfl⟩
 ·rw[oQ];intro p hp;simp at hp;subst hp;show n<=n+1;lia
 ·rw[nK]at h ⊢;by_cases hq:q.2=n
  ·rw[oR u hq];intro p hp;rcases List.mem_append.mp hp with z|z
   ·exact h p (tM _ z)
   ·simp at z;subst z;have:=h q (by simp);show q.1<=n+1;lia
  ·rw[oS u hq];intro p hp;rcases List.mem_append.mp hp with z|z
   ·exact h p z
   ·simp at z;subst z;show n<=n+1;lia
def dz(ns:List Int):bK (cF ns)=ns:=by
 have key:∀ (ns:List Int) (t:Row),(∀ p∈t,p.1<=p.2)->bK (ns.foldl (λt n=>jw t n (n+1)) t)=bK t++ns:=by
  intro ns
  induction ns with
  | nil=>intro t _;simp
  | cons n ns ih =>
   intro t h;rw[mh,ih _ (La t n h),IY t n h,m8];rfl
 have:=key ns [] (λp hp=>by cases hp);simpa [cF,bK] using this
def jH(ns:List Int):∀ p∈cF ns,p.1<=p.2:=by
 have key:∀ (ns:List Int) (t:Row),(∀ p∈t,p.1<=p.2)->∀ p∈ns.foldl (λt n=>jw t n (n+1)) t,p.1<=p.2:=by
  intro ns
  induction ns with
  | nil=>intro t h;exact h
  | cons n ns ih=>intro t h;exact ih _ (La t n h)
 exact key ns [] (λp hp=>by cases hp)
end gB
namespace gB
def yD(p:Int × Int)(h:p.1<=p.2):(↑(jG p):Int)=p.2-p.1:=by
 unfold jG;rw[fD];lia
theorem sH:∀ (r:Row),(∀ p∈r,p.1<=p.2)->(↑(bK r):Int)=i7 r
 | [],_=>rfl
 | p::r,h=>by
  have ih:=sH r λq hq=>h q (nI _ hq);have hp:=yD p (h p (wO ..));have e:bK (p::r)=jG p++bK r:=rfl;rw[e,cT,FF];lia
end gB
namespace gB
open L2 cX
structure bZ(K:Frag)(mg:Str->Option Value)(x:Str)(st:Stmt)(ps:List Str)(a:Addr)(d:FuncData):Prop where
 F:RZ K x x st a d
 b:Binds K d ps []
 m:mg x=⇑↥a
section
variable {X:Cx}
theorem aH{x:Str}{st:Stmt}{ps:List Str}{f:Addr}{j k:Nat}{sp:Sp}{e:Expr}{es:List Expr}{t:TA}{p pos:Pos}(d:bZ X.K X.mg x st ps f fd)(G:bq X.prog X.w X.K X.mg X.zt cO k f fd ps sp)(hr:jf j X.A)
  (ha:PA X (e::es) t) (WK:k<=j:=by first|decide|lia) (hg:Gl X x:=by rfl) (L5:(x == ("__debug__":Str))=false:=by decide) (he:starEach (e::es) X.env=(false,eval e X.env)::starEach es X.env:=by rfl)
  (E6:(backTo pos (starEach es X.env)).any (·.1)=false:=by rfl):PE X (.Call (.Name x p) (e::es) [] pos) (KG sp [] E0 t) :=
 KI G (hr.mono WK) hg d.m d.F.kp d.b .nil bC ha L5 he E6
theorem IZ{st:Stmt}{t t':TS}(h:PS X st t)(hi:∀ D σ H,t' D σ H->t D σ H):PS X st t':=λao s σ H D I q=>h ao s σ H D I (hi D σ H q)
end
def cz(l:Addr)(H H':Hp):Prop:=∀ a o,H a=⇑o->a≠l->H' a=⇑o
theorem aI.keep{H H':Hp}(s:aI H H'):cz l H H':=λa o e _=>s a o e
theorem cz.refl(l:Addr)(H:Hp):cz l H H:=λ_ _ e _=>e
theorem cz.trans{H H1 H2:Hp}(a:cz l H H1)(b:cz l H1 H2):cz l H H2:=λc o e n=>b c o (a c o e n) n
theorem aG(l:Addr)(H:Hp)(o:HO):cz l H (aN H l o):=λa u e n=>by rw[aL n];exact e
theorem bH{H H1 H2:Hp}(h:H l=none)(a:aI H H1)(b:cz l H1 H2):aI H H2:=λc o e=>b c o (a c o e) (aA e h)
theorem ak{H:Hp}{p:Addr}(h:H p=none)(o:HO):aI H (aN H p o):=λb u q=>by rw[aL (aA q h)];exact q
def gM{a:Addr}{H H':Hp}(k:cz l H H')(n:a≠l)(h:H' a=none):H a=none:=by
 cases q:H a with
 | none=>rfl
 | some o=>rw[k a o q n]at h;cases h
def eU(H:Hp)(l c:Addr):Prop:=c≠l/\∃ (ns:List Int) (i d r:Int),H l=⇑(.lst [↥c,.int i,.int d,.int r])/\H c=⇑(.lst (ns.map V.int))/\0<=i/\0<=r/\r<2147483647
def eU.same{H H':Hp}{c:Addr}(s:eU H l c)(k:aI H H'):eU H' l c:=by
 let⟨n,ns,i,d,r,h1,h2,h3⟩:=s;exact⟨n,ns,i,d,r,k _ _ h1,k _ _ h2,h3⟩
def eU.ne{H:Hp}{c a:Addr}(s:eU H l c)(h:H a=none):l≠a/\c≠a:=by
 let⟨n,ns,i,d,r,e1,e2,h3⟩:=s;exact⟨aA e1 h,aA e2 h⟩
theorem aab{a b c d:V}:qJ [a,b,c,d] 0=⇑a:=rfl
theorem WL{a b c d:V}:qJ [a,b,c,d] 1=⇑b:=rfl
theorem Sg{a b c d:V}:qJ [a,b,c,d] 2=⇑c:=rfl
theorem aac{a b c d:V}:qJ [a,b,c,d] 3=⇑d:=rfl
theorem aeu{a b:V}:qJ [a,b] 0=⇑a:=rfl
theorem aev{a b:V}:qJ [a,b] 1=⇑b:=rfl
class inductive xC
 | mk (l c:Addr) (b:Int) (_:vs=[↥l,.int b]) (_:eU H l c) (_:0<b) (_:b<10^70) (_ :
 ∀ (v:Int) (H':Hp),0<=v->v<b->eU H' l c->(∀ a,a≠l->H' a=H a)->Q (.int v) H'):xC vs H Q E
class inductive UW(K:Frag)
 | mk (a:Addr) (ns:List Int) (_:vs=[↥a]) (_:bG K H a (ns.map V.int)) (_ :
 ∀ (l c:Addr) (H':Hp),eU H' l c->aI H H'->H l=none->H c=none->Q ↥l H')
def aew:V->Bool
 | .int _ | .bl _ | .str _ | .fT=>true
 | _=>false
def OQ(k:Bool)(H:Hp)(a:Addr)(xs:List V):Prop:=match k with
 | true=>H a=⇑(.lst xs)
 | false=>H a=⇑(.tup xs)
def OQ.same{k:Bool}{H H':Hp}{a:Addr}{xs:List V}(h:OQ k H a xs)(s:aI H H'):OQ k H' a xs:=by
 cases k
 ·exact s _ _ h
 ·exact s _ _ h
def OQ.sq{K:Frag}{k:Bool}{H:Hp}{a:Addr}{xs:List V}(h:OQ k H a xs):KZ K k H a xs:=by
 cases k
 ·exact cW.of h
 ·exact bG.of h
def Eqv(H:Hp):Nat->V->V->Prop
 | 0,_,_=>False
 | n+1,x,y=>(aew x=true/\x=y)\/∃ (k:Bool) (a b:Addr) (xs ys:List V),x=↥a/\y=↥b/\OQ k H a xs/\OQ k H b ys/\↑xs=↑ys/\
   ∀ (i:Nat) (u v:V),xs[i]?=⇑u->ys[i]?=⇑v->Eqv H n u v
theorem Eqv.same{H H':Hp}(s:aI H H'):∀ {n:Nat} {x y:V},Eqv H n x y->Eqv H' n x y
 | 0,_,_,h=>h
 | n+1,x,y,h=>by
  rcases h with h|⟨k,a,b,xs,ys,e1,e2,h1,h2,hl,hi⟩
  ·exact .inl h
  ·exact .inr ⟨k,a,b,xs,ys,e1,e2,h1.same s,h2.same s,hl,λi u v eu ev=>Eqv.same s (hi i u v eu ev)⟩
theorem Eqv.int{H:Hp}{n:Nat}(i:Int):Eqv H (n+1) (.int i) (.int i):=.inl ⟨K⟩
def Ad(n:Nat):Sp:=λvs H Q _=>∃ x y,vs=[x,y]/\Eqv H n x y/\∀ H',aI H H'->Q (.bl true) H'
class inductive Lb
 | mk (i:Int) (_:vs=[.int i]) (_:Q (.bl true) H)
section
variable (K:Frag)
def aad:kitOne K (.type "bool") (.type "bool")=⇑true:=by rfl
def aae:kitOne K (.type "int") (.type "bool")=⇑false:=by kernel_rfl
def aaf:kitOne K (.type "int") (.type "int")=⇑true:=by rfl
def aex:kitOne K (.type "str") (.type "bool")=⇑false:=by kernel_rfl
def aey:kitOne K (.type "str") (.type "int")=⇑false:=by kernel_rfl
def aag:kitOne K (.type "str") (.type "str")=⇑true:=by rfl
def aez:kitOne K (.type "list") (.type "bool")=⇑false:=by kernel_rfl
def aeA:kitOne K (.type "list") (.type "int")=⇑false:=by kernel_rfl
def aeB:kitOne K (.type "list") (.type "str")=⇑false:=by kernel_rfl
def aah:kitOne K (.type "list") (.type "list")=⇑true:=by rfl
def k_lt:kitOne K (.type "list") (.type "tuple")=⇑false:=by kernel_rfl
def aeC:kitOne K (.type "tuple") (.type "bool")=⇑false:=by kernel_rfl
def aeD:kitOne K (.type "tuple") (.type "int")=⇑false:=by kernel_rfl
def aeE:kitOne K (.type "tuple") (.type "str")=⇑false:=by kernel_rfl
def aeF:kitOne K (.type "tuple") (.type "list")=⇑false:=by kernel_rfl
def aeG:kitOne K (.type "tuple") (.type "tuple")=⇑true:=by rfl
end
def YM(k:Bool):Value:=.type (if k then "list" else "tuple")
def OQ.ty{K:Frag}{k:Bool}{H:Hp}{a:Addr}{xs:List V}(h:OQ k H a xs):kg K H ↥a (YM k):=by
 cases k
 ·exact kg.tup h
 ·exact kg.lst h
def aeH(K:Frag)(k:Bool):kitOne K (YM k) (.type "bool")=⇑false:=by cases k;exact aeC K;exact aez K
def aeI(K:Frag)(k:Bool):kitOne K (YM k) (.type "int")=⇑false:=by cases k;exact aeD K;exact aeA K
def aeJ(K:Frag)(k:Bool):kitOne K (YM k) (.type "str")=⇑false:=by cases k;exact aeE K;exact aeB K
def aai(K:Frag)(k:Bool):kitOne K (YM k) (.type "list")=⇑k:=by cases k;exact aeF K;exact aah K
def aaj(K:Frag)(k:Bool):kitOne K (YM k) (.type "tuple")=⇑(!k):=by cases k;exact aeG K;exact k_lt K
def rD(H:Hp)(a:Addr)(p:Int × Int):Prop:=H a=⇑(.tup [.int p.1,.int p.2])
abbrev bM(H:Hp):List Addr->Row->Prop:=Paired (rD H)
inductive bW(H:Hp)(r:Addr)(row:Row):Prop
 | mk (as:List Addr) (_:H r=⇑(.lst (as.map V.ref))) (_:bM H as row)
theorem bM.tups{H H':Hp}{as:List Addr}{row:Row}(h:bM H as row)(t:∀ a xs,H a=⇑(.tup xs)->H' a=⇑(.tup xs)):bM H' as row:=Paired.Ig h λa p e=>t a _ e
theorem bM.same{H H':Hp}{as:List Addr}{row:Row}(h:bM H as row)(s:aI H H'):bM H' as row:=h.tups λa xs e=>s a _ e
def bW.same{H H':Hp}{r:Addr}{row:Row}(h:bW H r row)(s:aI H H'):bW H' r row:=by
 let⟨as,h1,h2⟩:=h;exact⟨as,s _ _ h1,h2.same s⟩
theorem bM.keep{H H':Hp}{as:List Addr}{row:Row}{xs:List V}(h:bM H as row)(hl:H l=⇑(.lst xs))(s:cz l H H'):bM H' as row :=
 h.tups λa ys e=>s a _ e (cK e hl)
def bW.keep{H H':Hp}{r:Addr}{row:Row}{xs:List V}(h:bW H r row)(hl:H l=⇑(.lst xs))(n:r≠l)(s:cz l H H'):bW H' r row:=by
 let⟨as,h1,h2⟩:=h;exact⟨as,s _ _ h1 n,h2.keep hl s⟩
theorem bM.get{H:Hp}:∀ {as:List Addr} {row:Row} {i:Nat} {a:Addr},bM H as row->as[i]?=⇑a->∃ p,row[i]?=⇑p/\rD H a p
 | _,_,_,_,.nil,e=>by simp at e
 | _,_,0,_,.cons r _,e=>by simp at e;subst e;exact⟨Y,r⟩
 | _,_,i+1,a,.cons _ t,e=>by
  let⟨p,h1,h2⟩:=bM.get (i:=i) (a:=a) t (by simpa using e);exact⟨p,by simpa using h1,h2⟩
def bM.snoc{H:Hp}{as:List Addr}{row:Row}{a:Addr}{p:Int × Int}(h:bM H as row)(e:rD H a p):bM H (as++[a]) (row++[p]):=by
 induction h with
 | nil=>exact .cons e .nil
 | cons r _ ih=>exact .cons r ih
theorem bM.split{H:Hp}:∀ {as:List Addr} {row:Row} {p:Int × Int},bM H as (row++[p])->∃ bs a,as=bs++[a]/\bM H bs row/\rD H a p
 | as,[],p,h=>by
  cases h with
  | cons r t=>cases t;exact⟨[],Y,.nil,r⟩
 | as,q::row,p,h=>by
  cases h with
  | cons r t =>
   let⟨bs,a,rfl,h1,h2⟩:=bM.split (row:=row) (p:=p) t;exact⟨_::bs,a,rfl,.cons r h1,h2⟩
theorem bM.len{H:Hp}{as:List Addr}{row:Row}(h:bM H as row):↑as=↑row:=Paired.length h
def bW.eqv{H:Hp}{r q:Addr}{row:Row}(h:bW H r row)(g:bW H q row)(n:Nat):Eqv H (n+3) ↥r ↥q:=by
 let⟨as,h1,h2⟩:=h;let⟨bs,g1,g2⟩:=g;refine .inr ⟨true,r,q,Z,h1,g1,by rw[cB,cB,h2.len,g2.len],λi u v eu ev=>?_⟩;rw[mY]at eu ev;let⟨a,ea,rfl⟩:=Option.map_eq_some_iff.mp eu;let⟨b,eb,rfl⟩:=Option.map_eq_some_iff.mp ev;let⟨p,e1,k1⟩:=h2.get ea;let⟨p',e2,k2⟩:=g2.get eb;rw[e1]at e2;cases e2;refine .inr ⟨false,a,b,Z,k1,k2,rfl,λj u v eu ev=>?_⟩;rw[eu]at ev;cases ev
 match j,eu with
 | 0,eu=>cases eu;exact Eqv.int _
 | 1,eu=>cases eu;exact Eqv.int _
theorem gx{α:Type}(xs:List α)(v:α):qJ (xs++[v]) (-1)=⇑v:=Ol xs v
def Ae(n:Nat):KO (n+1) (-1)=⇑n:=by
 unfold KO;rw[if_neg (by decide),if_pos ∅];congr 1;lia
def Af{α:Type}(xs:List α)(a b:α):(xs++[a]).set ↑xs b=xs++[b]:=by
 simp
def Ag(lo:Int)(n:Nat):CH lo n=(run lo n).map V.int:=by
 unfold CH
 induction n generalizing lo with
 | zero=>rfl
 | succ n ih =>
  rw[List.range_succ_eq_map,jy,List.map_map,run,jy,← ih (lo+1)];congr 1
  ·simp
  ·apply List.map_congr_left;intro i _;simp only[Function.comp,Nat.succ_eq_add_one];congr 1;lia
class inductive Si(lim:Nat)
 | mk (r:Addr) (row:Row) (_:vs=[↥r]) (_:bW H r row) (_:(∀ p∈row,0<=p.1/\p.1<=p.2/\p.2<2^62)) (_:↑(bK row)<=1000000) (_:↑row<=lim) (_ :
 ∀ (n:Addr) (H':Hp),H' n=⇑(.lst ((bK row).map V.int))->aI H H'->H n=none->Q ↥n H')
class inductive Sj
 | mk (r:Addr) (row:Row) (_:vs=[↥r]) (_:bW H r row) (_:↑row<=1000000) (_ :
 ∀ (q:Addr) (H':Hp),bW H' q (cy row)->aI H H'->H q=none->Q ↥q H')
theorem aQ{n:Nat}(h:n<=1000001):n<sizeLine:=Nat.lt_of_le_of_lt h (by decide)
end gB
namespace gB
open L2 cX
def WM:TS:=λD σ H=>∃ (l c:Addr) (b:Int),σ=[⇑↥l,⇑(.int b),none,none]/\eU H l c/\
 ∀ (cell:Option V) (H':Hp),eU H' l c->(∀ a,a≠l->H' a=H a)->D.nx [⇑↥l,⇑(.int b),cell,none] H'
def WN:TS:=λD σ H=>∃ (l c:Addr) (b:Int),σ=[⇑↥l,⇑(.int b),⇑(.int 7),none]/\eU H l c/\
 ∀ (cell:Int) (H':Hp),eU H' l c->(∀ a,a≠l->H' a=H a)->D.nx [⇑↥l,⇑(.int b),⇑(.int cell),none] H'
def Sk{ns:List Int}{i:Int}(h0:0<=i)(h1:i<(↑ns:Int)):∃ v:Int,qJ (ns.map V.int) i=⇑(.int v):=by
 have hk:i.toNat<↑ns:=by lia
 exists ns[i.toNat]
 have q:qJ (ns.map V.int) ((i.toNat:Nat):Int)=⇑(.int ns[i.toNat]):=dm (by rw[mY,tK hk] <;> rfl)
 have ei:((i.toNat:Nat):Int)=i:=by lia
 rw[ei]at q;exact q
def OR(ns:List Int)(lo hi:Option Int):∃ ms:List Int,ki (ns.map V.int) lo hi=ms.map V.int:=by
 unfold ki;exists (ns.drop (HT.gC ↑(ns.map V.int) 0 lo)).take (HT.gC ↑(ns.map V.int) ↑(ns.map V.int) hi-HT.gC ↑(ns.map V.int) 0 lo);rw[List.map_take,List.map_drop]
def tt{p:Prop} [Decidable p] {Q:V->Hp->Prop} {H:Hp} (hp:p) (h:Q (.bl true) H):Q (.bl (decide p)) H:=by
 rw[decide_eq_true hp];exact h
def OQ.or{K:Frag}{k:Bool}{H:Hp}{a:Addr}{xs:List V}(h:OQ k H a xs):bG K H a xs\/cW K H a xs:=by
 cases k
 ·exact .inr (cW.of h)
 ·exact .inl (bG.of h)
theorem dD{H H':Hp}(k:∀ a,a≠l->H' a=H a):cz l H H':=λa o e n=>by rw[k a n];exact e
end gB
namespace gB
open L2 cX
def eU.lst{H:Hp}{l c:Addr}(s:eU H l c):∃ xs,H l=⇑(.lst xs):=by
 let⟨n,ns,i,d,r,e1,_⟩:=s;exact⟨_,e1⟩
end gB
namespace cX
open Spec Rows L2
section
variable {prog:Program} {w:World} {A:Around} {R:Result->Shared->Prop} {s:Shared}
def sL(jR:List Expr)(env:Env):Sem Bool:=forIn jR true λc r=>if r=true then do let ok ← isTrue c env (eval c env);pure (ForInStep.yield ok) else pure (ForInStep.yield r)
theorem Mm{iter:Expr}{scope:Scope}{it acc:Value}{env:Env}(I:Nat->Shared->Prop)
  (pG:∀ n s,I n s->wpAny (model prog w) A (pyNext it) (λr s₁=>match r with
   | none=>R (.ok .next) s₁
   | some v=>wpAny (model prog w) A (letOwnedTupleGo wW it v) (λ_ s₂=>wpAny (model prog w) A (assign wW env v) (λ_ s₃ =>
     wpAny (model prog w) A (sL jR env) (λok s₄ =>
      if ok=true then wpAny (model prog w) A (eval j8 env) (λx s₅=>wpAny (model prog w) A (call (.builtin "list.append") [acc,x]) (λ_ s₆=>∃ m,m<n/\I m s₆) (λ_ _=>False) s₅) (λ_ _=>False) s₄
      else ∃ m,m<n/\I m s₄) (λ_ _=>False) s₃) (λ_ _=>False) s₂) (λ_ _=>False) s₁) (λ_ _=>False) s)
  (n:Nat) (h:I n s):codeAny (model prog w) A (.compLoop (.ListComp j8 [⟨wW,iter,jR,0⟩] scope pos) 0 it acc env) R s:=by
 refine codeAny_loop rfl I (λn s hI=>?_) n h;show wpAny _ A ((compTurn (.ListComp j8 [⟨wW,iter,jR,0⟩] scope pos) 0 it acc env).onRaise (λx=>do noteFrame x env;theTreesLotGoes x)) _ _ s;refine wpAny_noted ?_;rw[compTurn_list];refine wpAny_bind (wpAny_standAt (wpAny_bind (wpAny_mono (pG n s hI) (λr s₁ h₁=>?_) λ_ _ h'=>h'.elim)))
 cases r with
 | none=>exact wpAny_pure h₁
 | some v =>
  refine wpAny_bind (wpAny_mono h₁ (λ_ s₂ h₂=>wpAny_bind (wpAny_mono h₂ (λ_ s₃ h₃=>wpAny_bind (wpAny_mono h₃ (λok s₄ h₄=>?_) λ_ _ h'=>h'.elim)) λ_ _ h'=>h'.elim)) λ_ _ h'=>h'.elim)
  cases ok with
  | false=>exact wpAny_pure ⟨rfl,h₄⟩
  | true=>exact wpAny_bind (wpAny_bind (wpAny_mono h₄ (λx s₅ h₅=>wpAny_bind (wpAny_mono h₅ (λ_ s₆ h₆=>wpAny_pure (wpAny_pure ⟨rfl,h₆⟩)) λ_ _ h'=>h'.elim)) λ_ _ h'=>h'.elim))
end
section
variable {X:Cx} {N:List Str} {scope:Scope}
def Mn(X:Cx)(jR:List Expr)(t:TT):Prop :=
 ∀ (ao:List (Addr × Obj)) (s:Shared) (σ:L2.St) (H:Hp) (Q:Bool->Hp->Prop),Inv X ao σ H s->t σ H Q->wpAny (model X.prog X.w) X.A (sL jR X.env) (TP X ao σ Q) X.xe s
def Mp:TT:=λ_ H Q=>Q true H
theorem fZ:Mn X [] Mp:=λao s σ H Q I h=>wpAny_tests_nil ⟨H,I,h⟩
theorem vL{c:Expr}{t:TT}(h:PT X c t):Mn X [c] t:=λao s σ H Q I q=>wpAny_tests_one (h ao s σ H Q I q)
end
end cX
namespace cX
open Spec Rows L2
theorem Mq{P:Program}{w:World}{K:Frag}(it:Addr)(lo:Int)(n:Nat):Ip P w K tg (LR lo n) [it] it (λi h=>IsLongIter h it (lo+(i:Nat)*1) ((n:Int)-(i:Nat)) 1) where
 mem:=by simp
 obj:=λi h st b hb=>by
  have e:b=it:=by simpa using hb
  subst e
  exact⟨_,st,λv z=>by
   have z':Data.fields _=Data.cell v:=z
   cases z'⟩
 keep:=λi h h' st k=>k it (by simp) _ st
 item:=by
  intro X hP hw hK hc i ao s σ H E I hf st hg;subst hP hw hK;let⟨f0,f1,f2,f3,f4,f5⟩:=hf it (by simp);have W:=Walks.longrange (prog:=X.prog) (w:=X.w) (I.ok.hd hc) it lo 1 n;refine W.item i s _ _ hg st λv h' tk hv DA kk=>?_;let⟨t,rfl⟩:=hv;have I1:Inv X ao σ H { s with heap:=h',toks:=tk }:=I.turned (λb o hb e=>kk b o (by simpa using hb) e) f0 f1 f3 f4 f5;refine⟨Y,Fp (s:={ s with heap:=h',toks:=tk }) (n:="longrange_iterator") DA rfl rfl (by decide) ⟨.int (lo+i),H,I1,⟨t,?_⟩,⟨K⟩,DA,λb hb=>(hf b hb).1⟩⟩;rw[Int.mul_one]
 done:=by
  intro X hP hw hK hc i ao s σ H E I hf st hg;subst hP hw hK;let⟨f0,f1,f2,f3,f4,f5⟩:=hf it (by simp);exact wpAny_pyNext_long_end (I.ok.hd hc) st (by have:n<=i:=hg;lia) λh' eb=>⟨rfl,I.turned (t':=s.toks) (λb o hb e=>eb b o hb e) f0 f1 f3 f4 f5⟩
 self:=λ_ _ _ _ _ st h=>wpAny_pyIter_longiter st h
section
variable {X:Cx} {tg:Expr}
theorem Mr{σ:L2.St}{H:Hp}{s:Shared}{R:It->Hp->Prop}{E:Value->Shared->Prop}{lo hi:Int}{t u v:Tok}{tk:Nat}(I:Inv X ao σ H s)
  (q:R (LR lo (hi-lo).toNat) H):wpAny (model X.prog X.w) X.A (pyIter ↥s.heap.objs.size) (PIE X ao σ tg R) E { s with heap:=s.heap.push { cls:=.type "range",data:=.fields #[.int lo t,.int hi u,.int 1 v] },toks:=tk }:=by
 have I1:Inv X ao σ H { s with heap:=s.heap.push { cls:=.type "range",data:=.fields #[.int lo t,.int hi u,.int 1 v] },toks:=tk }:=I.kept λb o e=>Heap.get?_push_of_some _ e;have e1:lo+((0:Nat):Int)*1=lo:=by simp
 have e2:(((hi-lo).toNat:Nat):Int)-((0:Nat):Int)=Builtin.Range.rangeSize lo hi 1:=by rw[rangeSize_one];split <;> lia
 have fp:∀ b∈[(s.heap.push { cls:=.type "range",data:=.fields #[.int lo t,.int hi u,.int 1 v] }).objs.size],pH X ao H b:=λb hb=>by
  have e:b=(s.heap.push { cls:=.type "range",data:=.fields #[.int lo t,.int hi u,.int 1 v] }).objs.size:=by simpa using hb
  subst e;exact I1.LQ (fK _) (I1.hok.fresh (fK _))
 cases hb:Builtin.Range.small lo hi 1 with
 | true =>
  refine wpAny_pyIter_range (IsRange.new ..) hb ?_;refine⟨_,[(s.heap.push { cls:=.type "range",data:=.fields #[.int lo t,.int hi u,.int 1 v] }).objs.size],E,H,rfl,I1.kept (t':=tk) λb o e=>Heap.get?_push_of_some _ e,zK _ lo (hi-lo).toNat,?_,fp,q⟩;show IsRangeIter _ _ (lo+((0:Nat):Int)*1) ((((hi-lo).toNat:Nat):Int)-((0:Nat):Int)) 1;rw[e1,e2];exact Heap.get?_push_size _ rfl
 | false =>
  refine wpAny_pyIter_longrange (IsRange.new ..) hb ?_;refine⟨_,[(s.heap.push { cls:=.type "range",data:=.fields #[.int lo t,.int hi u,.int 1 v] }).objs.size],E,H,rfl,I1.kept (t':=tk) λb o e=>Heap.get?_push_of_some _ e,Mq _ lo (hi-lo).toNat,?_,fp,q⟩;show IsLongIter _ _ (lo+((0:Nat):Int)*1) ((((hi-lo).toNat:Nat):Int)-((0:Nat):Int)) 1;rw[e1,e2];exact Heap.get?_push_size _ rfl
def aak(ta:TA):TI:=fun σ H R=>ta σ H λvs H1=>∃ i j:Int,vs=[.int i,.int j]/\R (LR i (j-i).toNat) H1
theorem Ms{a b:Expr}{ta:TA}{p pos:Pos}(hg:Gl X "range")(hm:X.mg "range"=none)(ha:PA X [a,b] ta)(hs:starEach [a,b] X.env=[(false,eval a X.env),(false,eval b X.env)]:=by rfl)(HU:starEach [b] X.env=[(false,eval b X.env)]:=by rfl) :
  PI X tg (.Call (.Name "range" p) [a,b] [] pos) (aak ta):=by
 intro ao s σ H R I h;refine Call_ (wU I hg hm boot_range (PyProof.Rows.callWith_type1 (c9 (ha pos ao s σ H _ I h) λus s1 ⟨vs,H1,I1,r1,q1⟩=>?_) (by rw[hs,HU]) (by rw[HU];rfl)));let⟨i,j,e,q⟩:=q1;subst e;let⟨u1,u2,rfl,⟨t,rfl⟩,⟨t',rfl⟩⟩:=r1.two;exact call_range_2 (Mr I1 q)
end
end cX
namespace cX
open Spec Rows L2
section
variable {prog:Program} {w:World} {A:Around} {R:Result->Shared->Prop} {s:Shared}
theorem Sm(j8 tg iter qQ dO:Expr)(jR ji:List Expr)(scope:Scope)(pos:Pos)(it acc:Value)(env:Env) :
  compTurn (.ListComp j8 [⟨tg,iter,jR,0⟩,⟨qQ,dO,ji,0⟩] scope pos) 1 it acc env=(do
   standAt dO.pos
   match ← pyNext it with
   | none=>pure (.done .next)
   | some v =>
    letOwnedTupleGo qQ it v
    assign qQ env v
    let ok ← sL ji env
    if ok then (do let _ ← call (.builtin "list.append") [acc,← eval j8 env])
    again (.compLoop (.ListComp j8 [⟨tg,iter,jR,0⟩,⟨qQ,dO,ji,0⟩] scope pos) 1 it acc env)):=by rfl
theorem OS(j8 tg iter qQ dO:Expr)(jR ji:List Expr)(scope:Scope)(pos:Pos)(it acc:Value)(env:Env) :
  compTurn (.ListComp j8 [⟨tg,iter,jR,0⟩,⟨qQ,dO,ji,0⟩] scope pos) 0 it acc env=(do
   standAt iter.pos
   match ← pyNext it with
   | none=>pure (.done .next)
   | some v =>
    letOwnedTupleGo tg it v
    assign tg env v
    let ok ← sL jR env
    if ok then
     let x ← eval dO env
     standAt dO.pos
     let x ← foldedSetIterable dO env x
     let _ ← runOwn (.compStart (.ListComp j8 [⟨tg,iter,jR,0⟩,⟨qQ,dO,ji,0⟩] scope pos) 1 (← holding [x] (pyIter x)) acc env) env
    again (.compLoop (.ListComp j8 [⟨tg,iter,jR,0⟩,⟨qQ,dO,ji,0⟩] scope pos) 0 it acc env)):=by rfl
theorem WO{iter:Expr}{scope:Scope}{it acc:Value}{env:Env}(I:Nat->Shared->Prop)
  (pG:∀ n s,I n s->wpAny (model prog w) A (pyNext it) (λr s₁=>match r with
   | none=>R (.ok .next) s₁
   | some v=>wpAny (model prog w) A (letOwnedTupleGo qQ it v) (λ_ s₂=>wpAny (model prog w) A (assign qQ env v) (λ_ s₃ =>
     wpAny (model prog w) A (sL ji env) (λok s₄ =>
      if ok=true then wpAny (model prog w) A (eval j8 env) (λx s₅=>wpAny (model prog w) A (call (.builtin "list.append") [acc,x]) (λ_ s₆=>∃ m,m<n/\I m s₆) (λ_ _=>False) s₅) (λ_ _=>False) s₄
      else ∃ m,m<n/\I m s₄) (λ_ _=>False) s₃) (λ_ _=>False) s₂) (λ_ _=>False) s₁) (λ_ _=>False) s)
  (n:Nat) (h:I n s):codeAny (model prog w) A (.compLoop (.ListComp j8 [⟨tg,iter,jR,0⟩,⟨qQ,dO,ji,0⟩] scope pos) 1 it acc env) R s:=by
 refine codeAny_loop rfl I (λn s hI=>?_) n h;show wpAny _ A ((compTurn (.ListComp j8 [⟨tg,iter,jR,0⟩,⟨qQ,dO,ji,0⟩] scope pos) 1 it acc env).onRaise (λx=>do noteFrame x env;theTreesLotGoes x)) _ _ s;refine wpAny_noted ?_;rw[Sm];refine wpAny_bind (wpAny_standAt (wpAny_bind (wpAny_mono (pG n s hI) (λr s₁ h₁=>?_) λ_ _ h'=>h'.elim)))
 cases r with
 | none=>exact wpAny_pure h₁
 | some v =>
  refine wpAny_bind (wpAny_mono h₁ (λ_ s₂ h₂=>wpAny_bind (wpAny_mono h₂ (λ_ s₃ h₃=>wpAny_bind (wpAny_mono h₃ (λok s₄ h₄=>?_) λ_ _ h'=>h'.elim)) λ_ _ h'=>h'.elim)) λ_ _ h'=>h'.elim)
  cases ok with
  | false=>exact wpAny_pure ⟨rfl,h₄⟩
  | true=>exact wpAny_bind (wpAny_bind (wpAny_mono h₄ (λx s₅ h₅=>wpAny_bind (wpAny_mono h₅ (λ_ s₆ h₆=>wpAny_pure (wpAny_pure ⟨rfl,h₆⟩)) λ_ _ h'=>h'.elim)) λ_ _ h'=>h'.elim))
theorem Sn{iter:Expr}{scope:Scope}{it acc:Value}{env:Env}
  (h0:codeAny (model prog w) A (.compLoop (.ListComp j8 [⟨tg,iter,jR,0⟩,⟨qQ,dO,ji,0⟩] scope pos) 1 it acc env) R s)
  (h:wpAny (model prog w) A (pyIter it) (λSo s'=>codeAny (model prog w) A (.compLoop (.ListComp j8 [⟨tg,iter,jR,0⟩,⟨qQ,dO,ji,0⟩] scope pos) 1 So acc env) R s') (λ_ _=>False) s) :
  codeAny (model prog w) A (.compStart (.ListComp j8 [⟨tg,iter,jR,0⟩,⟨qQ,dO,ji,0⟩] scope pos) 1 it acc env) R s:=by
 refine codeAny_of_tree ?_;show wpAny _ _ ((compStart (.ListComp j8 [⟨tg,iter,jR,0⟩,⟨qQ,dO,ji,0⟩] scope pos) 1 it acc env).onRaise (λx=>do noteFrame x env;standAt theWindowsPlace)) _ _ s;refine wpAny_notedAt ?_;unfold compStart;show wpAny _ _ (ask >>= _) _ _ s;refine wpAny_bind (wpAny_askSetting (wpAny_ite ?_));split
 ·first
   | exact wpAny_bind (wpAny_pure (wpAny_pure (And.intro rfl h0)))
   | exact wpAny_pure (And.intro rfl h0)
 ·first
   | exact wpAny_bind (wpAny_rule (wpAny_bind (wpAny_standAt (wpAny_bind (wpAny_mono h (λSo s' h'=>wpAny_pure (And.intro rfl h')) λ_ _ x=>x.elim)))))
   | (refine wpAny_bind (wpAny_rule ?_);show wpAny _ _ (standAt dO.pos >>= _) _ _ s;exact wpAny_bind (wpAny_standAt (wpAny_bind (wpAny_mono h (λSo s' h'=>wpAny_pure (And.intro rfl h')) λ_ _ x=>x.elim))))
theorem Sq{iter:Expr}{scope:Scope}{it acc:Value}{env:Env}(I:Nat->Shared->Prop)
  (HU:∀ x,foldedSetIterable dO env x=pure x)
  (pG:∀ n s,I n s->wpAny (model prog w) A (pyNext it) (λr s₁=>match r with
   | none=>R (.ok .next) s₁
   | some v=>wpAny (model prog w) A (letOwnedTupleGo tg it v) (λ_ s₂=>wpAny (model prog w) A (assign tg env v) (λ_ s₃ =>
     wpAny (model prog w) A (sL jR env) (λok s₄ =>
      if ok=true then wpAny (model prog w) A (eval dO env) (λx s₅=>wpAny (model prog w) A (pyIter x) (λit2 s₆ =>
       codeAny (model prog w) A (.compStart (.ListComp j8 [⟨tg,iter,jR,0⟩,⟨qQ,dO,ji,0⟩] scope pos) 1 it2 acc env) (λr s₇=>(∃ f,r=.ok f)/\∃ m,m<n/\I m s₇) s₆) (λ_ _=>False) s₅) (λ_ _=>False) s₄
      else ∃ m,m<n/\I m s₄) (λ_ _=>False) s₃) (λ_ _=>False) s₂) (λ_ _=>False) s₁) (λ_ _=>False) s)
  (n:Nat) (h:I n s):codeAny (model prog w) A (.compLoop (.ListComp j8 [⟨tg,iter,jR,0⟩,⟨qQ,dO,ji,0⟩] scope pos) 0 it acc env) R s:=by
 refine codeAny_loop rfl I (λn s hI=>?_) n h;show wpAny _ A ((compTurn (.ListComp j8 [⟨tg,iter,jR,0⟩,⟨qQ,dO,ji,0⟩] scope pos) 0 it acc env).onRaise (λx=>do noteFrame x env;theTreesLotGoes x)) _ _ s;refine wpAny_noted ?_;rw[OS];refine wpAny_bind (wpAny_standAt (wpAny_bind (wpAny_mono (pG n s hI) (λr s₁ h₁=>?_) λ_ _ h'=>h'.elim)))
 cases r with
 | none=>exact wpAny_pure h₁
 | some v =>
  refine wpAny_bind (wpAny_mono h₁ (λ_ s₂ h₂=>wpAny_bind (wpAny_mono h₂ (λ_ s₃ h₃=>wpAny_bind (wpAny_mono h₃ (λok s₄ h₄=>?_) λ_ _ h'=>h'.elim)) λ_ _ h'=>h'.elim)) λ_ _ h'=>h'.elim)
  cases ok with
  | false=>exact wpAny_pure ⟨rfl,h₄⟩
  | true =>
   refine wpAny_bind (wpAny_mono h₄ (λx s₅ h₅=>wpAny_bind (wpAny_standAt (wpAny_bind (wpAny_of_eq (HU x) (wpAny_bind (wpAny_holding (wpAny_mono h₅ (λit2 s₆ h₆=>?_) λ_ _ h'=>h'.elim))))))) λ_ _ h'=>h'.elim);refine wpAny_bind (wpAny_runOwn (codeAny_mono h₆ λr s₇ Ik=>?_));let⟨⟨f,hf⟩,hm⟩:=Ik;subst hf;exact wpAny_pure ⟨rfl,hm⟩
end
section
variable {X:Cx} {N:List Str} {scope:Scope}
def I0(wi:TI)(acc:Addr)(g:TG)(tt:TT)(te:TE):L2.St->Hp->(L2.St->Hp->Prop)->Prop:=fun σ H Nx=>wi σ H λJ H1 =>
 ∃ W:Nat->Nat->L2.St->Hp->Prop,(∃ m,W 0 m σ H1)/\∀ i m σ H,W i m σ H->
  (J.stop i H/\Nx σ H)\/(J.go i H/\∃ N2:L2.St->Hp->Prop,(∀ σ' H',N2 σ' H'->∃ m',m'<m/\W (i+1) m' σ' H')/\∀ x H',J.N7 i H x H'->g x σ H' fun σ2 H2=>tt σ2 H2 λb H3 =>
   if b=true then te σ2 H3 λv H4=>∃ xs,H4 acc=⇑(.lst xs)/\↑xs<sizeLine/\N2 σ2 (aN H4 acc (.lst (xs++[v]))) else N2 σ2 H3)
theorem Mt{Y:Cx}{iter:Expr}{Ja:TI}{g2:TG}{Jb:TT}{te:TE}(hc:Y.calm=true)(hxe:Y.xe=λ_ _=>False)(hi:PI Y qQ dO Ja)(hg:PG Y qQ g2)(ht:Mn Y ji Jb)(he:PE Y j8 te)
  {ao:List (Addr × Obj)} {s:Shared} {σ:L2.St} {H:Hp} {Nx:L2.St->Hp->Prop} (I:Inv Y ao σ H s) (h:I0 Ja acc g2 Jb te σ H Nx) :
  wpAny (model Y.prog Y.w) Y.A (eval dO Y.env) (λx s₅=>wpAny (model Y.prog Y.w) Y.A (pyIter x) (λit2 s₆ =>
   codeAny (model Y.prog Y.w) Y.A (.compStart (.ListComp j8 [⟨tg,iter,jR,0⟩,⟨qQ,dO,ji,0⟩] scope pos) 1 it2 ↥acc Y.env) (λr s₇=>(∃ f,r=.ok f)/\∃ σ' H',Inv Y ao σ' H' s₇/\Nx σ' H') s₆) (λ_ _=>False) s₅) (λ_ _=>False) s:=by
 have hi':=hi ao s σ H _ I h;have hg':=hg;have ht':=ht;have CK:=he;unfold PG at hg';unfold Mn at ht';unfold PE at CK;rw[hxe]at hi' hg' ht' CK;refine c9 hi' λv s1 h1=>c9 h1 λZx s2 h2=>?_;let⟨it,fp,tn,J,H2,e,I2,T,st2,f2,W,⟨m0,w0⟩,pG⟩:=h2;subst e;have uz:∀ {H':Hp},(∀ b∈fp,H' b=none)->∀ b∈fp,pH Y ao H' b:=λhn b hb=>⟨hn b hb,(f2 b hb).2⟩
 have loop:codeAny (model Y.prog Y.w) Y.A (.compLoop (.ListComp j8 [⟨tg,iter,jR,0⟩,⟨qQ,dO,ji,0⟩] scope pos) 1 ↥it ↥acc Y.env) (λr s₇=>(∃ f,r=.ok f)/\∃ σ' H',Inv Y ao σ' H' s₇/\Nx σ' H') s2:=by
  refine WO (λn s'=>∃ i σ' H',Inv Y ao σ' H' s'/\tn i s'.heap/\(∀ b∈fp,H' b=none)/\W i n σ' H') ?_ m0 ⟨0,σ,H2,I2,st2,λb hb=>(f2 b hb).1,w0⟩;rintro n s6 ⟨i,σ6,H6,I6,UX,Ri,w6⟩;rcases pG i n σ6 H6 w6 with ⟨stop,qn⟩|⟨go,N2,hN,step⟩
  ·refine c9 (T.done Y rfl rfl rfl hc i ao s6 σ6 H6 _ I6 (uz Ri) UX stop) λr s7 Im=>?_;let⟨hr,I7⟩:=Im;subst hr;exact⟨⟨Y⟩,σ6,H6,I7,qn⟩
  ·refine c9 (T.item Y rfl rfl rfl hc i ao s6 σ6 H6 _ I6 (uz Ri) UX go) λr s7 Il=>?_;let⟨u,hr,h7⟩:=Il;subst hr;refine c9 h7 λ_ s8 zI=>?_;let⟨x,H8,I8,r8,y8,NJ,NK⟩:=zI;have I8':=I8.pinned (uz NK) (T.obj _ _ NJ);refine c9 (hg' _ s8 σ6 H8 x u _ I8' r8 (step x H8 y8)) λ_ s9 Fj=>?_;let⟨σ9,H9,I9,q9⟩:=Fj;refine c9 (ht' _ s9 σ9 H9 _ I9 q9) λok s10 Dy=>?_;let⟨Jc,UY,CA⟩:=Dy
   have again:∀ {σ7:L2.St} {H7:Hp} {ua:Shared},Inv Y (ao++uy fp s8.heap) σ7 H7 ua->N2 σ7 H7->∃ m,m<n/\∃ i σ' H',Inv Y ao σ' H' ua/\tn i ua.heap/\(∀ b∈fp,H' b=none)/\W i m σ' H':=λ{σ7 H7 ua} I7 n7=>by
    let⟨m',hm,w7⟩:=hN σ7 H7 n7;refine⟨m',hm,i+1,σ7,H7,I7.oE,T.keep _ _ _ NJ λb hb o e=>(I7.pin (b,o) (pD _ (pD _ (gY hb e)))).1,λb hb=>?_,w7⟩;let⟨o,e,d⟩:=T.obj _ _ NJ b hb;exact (I7.pin (b,o) (pD _ (pD _ (gY hb e)))).2.1
   cases ok with
   | false =>
    rw[if_neg gF]at CA;exact again UY CA
   | true =>
    rw[if_pos rfl]at CA;refine c9 (CK _ s10 σ9 Jc _ UY CA) λv ua Ij=>?_;let⟨y,H11,I11,r11,xs,hx,hz,n11⟩:=Ij;have ap:=bS _ ua σ9 H11 ↥acc [y] ↥acc [v] (λ_ H'=>N2 σ9 H') I11 rfl (.cons r11 .nil) ⟨_,xs,y,K,hx,hz,n11⟩;rw[hxe]at ap;exact c9 ap λ_ mZ ⟨_,H12,I12,_,WQ⟩=>again I12 WQ
 exact Sn loop (T.self _ _ _ _ _ st2 loop)
theorem FH{lo:Int}{k:Nat}{g:TG}{tt:TT}{te:TE}{σ:L2.St}{H:Hp}{Nx:L2.St->Hp->Prop}(Pv:Nat->L2.St->Hp->Prop)(h0:Pv 0 σ H)
  (hs:∀ i σ H,i<k->Pv i σ H->g (.int (lo+i)) σ H fun σ2 H2=>tt σ2 H2 λb H3=>if b=true then te σ2 H3 λv H4=>∃ ys,H4 acc=⇑(.lst ys)/\↑ys<sizeLine/\Pv (i+1) σ2 (aN H4 acc (.lst (ys++[v]))) else Pv (i+1) σ2 H3)
  (hd:∀ σ H,Pv k σ H->Nx σ H):∃ W:Nat->Nat->L2.St->Hp->Prop,(∃ m,W 0 m σ H)/\∀ i m σ H,W i m σ H->
  ((LR lo k).stop i H/\Nx σ H)\/((LR lo k).go i H/\∃ N2:L2.St->Hp->Prop,(∀ σ' H',N2 σ' H'->∃ m',m'<m/\W (i+1) m' σ' H')/\∀ x H',(LR lo k).N7 i H x H'->g x σ H' fun σ2 H2=>tt σ2 H2 λb H3 =>
   if b=true then te σ2 H3 λv H4=>∃ xs,H4 acc=⇑(.lst xs)/\↑xs<sizeLine/\N2 σ2 (aN H4 acc (.lst (xs++[v]))) else N2 σ2 H3):=by
 refine⟨λi m σ H=>m=k-i/\i<=k/\Pv i σ H,⟨k,by simp,Nat.zero_le _,h0⟩,?_⟩;rintro i m σ H ⟨rfl,hi,p⟩;by_cases qP:i<k
 ·refine .inr ⟨qP,Pv (i+1),fun σ' H' p'=>⟨k-(i+1),by lia,rfl,qP,p'⟩,λx H' y=>?_⟩;let⟨e,y⟩:=y;subst e y;exact hs i σ _ qP p
 ·have e:i=k:=by lia
  subst e;exact .inl ⟨Nat.le_refl _,hd σ H p⟩
end
theorem Ss{i:Nat}{v:V}{σ:L2.St}{H:Hp}{Q:L2.St->Bool->Hp->Prop}(h:Q (σ.set i (⇑v)) true H):qU i v σ H (fun σ2 H2=>Mp σ2 H2 (Q σ2)):=h
theorem yes{σ:L2.St}{H:Hp}{Q:Bool->Hp->Prop}(h:Q true H):Mp σ H Q:=h
end cX
namespace gB
open L2 cX
class inductive Su
 | mk (r:Addr) (row:Row) (_:vs=[↥r]) (_:bW H r row) (_:(∀ p∈row,p.1<=p.2)) (_:↑(bK row)<=1000000) (_ :
 ∀ (n:Addr) (H':Hp),H' n=⇑(.lst ((bK row).map V.int))->aI H H'->H n=none->Q ↥n H')
def Ah{row:Row}{i:Nat}{p:Int × Int}(h:row[i]?=⇑p):bK (row.take (i+1))=bK (row.take i)++jG p:=by
 rw[take_snoc h,cZ,gw]
def uc(row:Row)(i:Nat):↑(bK (row.take i))<=↑(bK row):=by
 conv=>rhs;rw[← List.take_append_drop i row,cZ,cT]
 lia
theorem OT{H0 H2:Hp}{q t:Addr}{bs:List Addr}{row:Row}{st en:Int}(hq0:H0 q=none)(s:aI H0 H2)(eN:H2 q=⇑(.lst (bs.map V.ref)))(hb:bM H2 bs row)(ht:H2 t=none) :
  (aN (aN H2 t (.tup [.int st,.int en])) q (.lst (bs.map V.ref++[↥t]))) q=⇑(.lst ((bs++[t]).map V.ref))/\
  bM (aN (aN H2 t (.tup [.int st,.int en])) q (.lst (bs.map V.ref++[↥t]))) (bs++[t]) (row++[(st,en)])/\aI H0 (aN (aN H2 t (.tup [.int st,.int en])) q (.lst (bs.map V.ref++[↥t]))):=by
 have WR:q≠t:=aA eN ht;have s1:aI H2 (aN H2 t (.tup [.int st,.int en])):=ak ht _;refine⟨by rw[af,gE];rfl,?_,bH hq0 (s.trans s1) (aG q _ _)⟩;refine bM.snoc ((hb.same s1).keep (s1 _ _ eN) (aG q _ _)) ?_;show aN _ q _ t=_;rw[aL WR.symm,af]
theorem turned{H0 H2:Hp}{q t a:Addr}{bs:List Addr}{row:Row}{st en:Int}(hq0:H0 q=none)(s:aI H0 H2)(eN:H2 q=⇑(.lst (bs.map V.ref++[↥a])))(hb:bM H2 bs row)(ht:H2 t=none) :
  (aN (aN H2 t (.tup [.int st,.int en])) q (.lst ((bs.map V.ref++[V.ref a]).set ↑bs (V.ref t)))) q=⇑(.lst ((bs++[t]).map V.ref))/\
  bM (aN (aN H2 t (.tup [.int st,.int en])) q (.lst ((bs.map V.ref++[V.ref a]).set ↑bs (V.ref t)))) (bs++[t]) (row++[(st,en)])/\aI H0 (aN (aN H2 t (.tup [.int st,.int en])) q (.lst ((bs.map V.ref++[V.ref a]).set ↑bs (V.ref t)))):=by
 have WR:q≠t:=aA eN ht;have s1:aI H2 (aN H2 t (.tup [.int st,.int en])):=ak ht _
 have e:(bs.map V.ref++[V.ref a]).set ↑bs (V.ref t)=(bs++[t]).map V.ref:=by
  have z:=Af (bs.map V.ref) (V.ref a) (V.ref t);rw[cB]at z;rw[z,gE];rfl
 rw[e];refine⟨af,?_,bH hq0 (s.trans s1) (aG q _ _)⟩;refine bM.snoc ((hb.same s1).keep (s1 _ _ eN) (aG q _ _)) ?_;show aN _ q _ t=_;rw[aL WR.symm,af]
def WS(bs:List Addr)(a:Addr):KO ↑(bs.map V.ref++[V.ref a]) (-1)=some ↑bs:=by
 rw[cT,cB,gV];exact Ae _
theorem Mu{f:Row->Int × Int->Row}{row:Row}{i:Nat}{p:Int × Int}(h:row[i]?=⇑p):(row.take (i+1)).foldl f []=f ((row.take i).foldl f []) p:=foldl_take_succ f row [] i p h
def FI(row:Row):∀ t:Row,↑(row.foldl ef t)<=↑t+↑row:=by
 induction row with
 | nil=>intro t;simp
 | cons p row ih =>
  intro t;have h1:=ih (ef t p)
  have h2:↑(ef t p)<=↑t+1:=by
   unfold ef;split
   ·lia
   ·exact yC _ _ _
  rw[mh,jS];lia
def FJ(ns:List Int):∀ t:Row,↑(ns.foldl (λt n=>jw t n (n+1)) t)<=↑t+↑ns:=by
 induction ns with
 | nil=>intro t;simp
 | cons n ns ih =>
  intro t;have h1:=ih (jw t n (n+1));have h2:=yC t n (n+1);rw[mh,jS];lia
end gB
namespace gB
open Spec Rows L2 cX
class inductive WT
 | mk (r:Addr) (row:Row) (_:vs=[↥r]) (_:bW H r row) (_:↑row<=1000000) (_: ∀ H',aI H H'->Q (.int (i7 row)) H')
end gB
namespace fO
open Spec Rows PySem.W L2
end fO
namespace fO
open Spec Rows L2
section
variable {X:Cx}
def Lc{out y:Str}{m n:Nat}(h:↑out+(n+m)<=1000000)(hy:↑y<=n):↑(out++y)<=sizeLine/\↑(out++y)+m<=1000000:=by
 rw[PySem.strLen_append];refine⟨Nat.le_of_lt (Nat.lt_of_le_of_lt (show ↑out+↑y<=1000000 by lia) (by decide)),by lia⟩
def Sv(r r' r2:R2)(ta tb tc td:TE):TT:=fun σ H Q=>ta σ H λx H1=>tb σ H1 λy H2=>r x y H2 λz H3=>∃ k,z=.bl k/\
 (if k=true then tc σ H3 λu H4=>r' y u H4 λz' H5=>∃ k',z'=.bl k'/\(if k'=true then td σ H5 λv H6=>r2 u v H6 λz2 H7=>∃ k2,z2=.bl k2/\Q k2 H7 else Q false H5) else Q false H3)
theorem Mw{op HS WU:CmpOp}{r r' r2:R2}{a b c d:Expr}{ta tb tc td:TE}(ho:uA X (compareOp op) r)(LO:uA X (compareOp HS) r')(ho2:uA X (compareOp WU) r2)(ha:PE X a ta)(hb:PE X b tb)(hc:PE X c tc)(hd:PE X d td)
  (hm:lastMarks [op,HS,WU] [b,c,d]=false:=by with_unfolding_all rfl):PT X (.Compare a [op,HS,WU] [b,c,d] pos) (Sv r r' r2 ta tb tc td):=by
 intro ao s σ H Q I h
 refine isTrue_chain (c9 (ha ao s σ H _ I h) λv s1 ⟨x,H1,I1,r1,q1⟩=>test_link (c9 (hb ao s1 σ H1 _ I1 q1) λu s2 ⟨y,H2,I2,r2',q2⟩ =>
  c9 (ho ao s2 σ H2 x y v u _ I2 r1 r2' q2) λz s3 ⟨z',H3,I3,r3,k,e,q3⟩=>?_)) hm
 subst e;cases r3;refine wpAny_truthy_bool ?_
 cases k with
 | false=>exact ite_ff ⟨H3,I3,q3⟩
 | true =>
  refine ite_tt (test_link (c9 (hc ao s3 σ H3 _ I3 q3) λv4 s4 ⟨x4,H4,I4,r4,q4⟩=>c9 (LO ao s4 σ H4 y x4 u v4 _ I4 r2' r4 q4) λz5 s5 Im=>?_));let⟨x5,H5,I5,r5,k5,e5,q5⟩:=Im;subst e5;cases r5;refine wpAny_truthy_bool ?_
  cases k5 with
  | false=>exact ite_ff ⟨H5,I5,q5⟩
  | true =>
   refine ite_tt (test_last (c9 (hd ao s5 σ H5 _ I5 q5) λv6 s6 ⟨x6,H6,I6,r6,q6⟩=>c9 (ho2 ao s6 σ H6 x4 x6 v4 v6 _ I6 r4 r6 q6) λz7 s7 Il=>?_));let⟨x7,H7,I7,r7,k7,e7,q7⟩:=Il;subst e7;cases r7;exact wpAny_truthy_bool ⟨H7,I7,q7⟩
end
end fO
namespace gB
open L2 cX fO
def aR{H H':Hp}{a:Addr}(s:aI H H')(h:H' a=none):H a=none:=by
 cases q:H a with
 | none=>rfl
 | some o=>rw[s a o q]at h;cases h
def wN(i:Int):Prop:=-(10^60)<i/\i<10^60
def OU(a b h:Int)(p:Int × Int):Row:=if max (a-h) 0<min (b-h) (p.2-p.1) then [(p.1+max (a-h) 0,p.1+min (b-h) (p.2-p.1))] else []
def kM(a b:Int):Int->Row->Row
 | _,[]=>[]
 | h,p::r=>OU a b h p++kM a b (h+(p.2-p.1)) r
theorem FL(a b:Int)(p:Int × Int):∀ (r:Row) (c:Int),kM a b c (r++[p])=kM a b c r++OU a b (c+i7 r) p
 | [],c=>by simp[kM,Sf]
 | q::r,c=>by
  have e:c+(q.2-q.1)+i7 r=c+i7 (q::r):=by rw[FF];lia
  rw[List.cons_append,kM,FL a b p r,kM,e,m8]
def WV(a b h:Int)(p:Int × Int):↑(OU a b h p)<=1:=by
 unfold OU
 split <;> simp
theorem jZ(a b:Int):∀ (r:Row) (c:Int),↑(kM a b c r)<=↑r
 | [],_=>fK _
 | q::r,c=>by
  have ih:=jZ a b r (c+(q.2-q.1));have z:=WV a b c q;rw[kM,cT,jS];lia
def OV(a b h:Int)(p:Int × Int):∀ q∈OU a b h p,q.1<=q.2:=by
 unfold OU;split
 ·intro q hq;simp only[List.mem_singleton]at hq;subst hq;simp only;lia
 ·intro q hq;cases hq
theorem DM(a b:Int):∀ (r:Row) (c:Int),∀ q∈kM a b c r,q.1<=q.2
 | [],_=>λq hq=>by cases hq
 | p::r,c=>λq hq=>by
  rw[kM]at hq;rcases List.mem_append.mp hq with z|z
  ·exact OV a b c p q z
  ·exact DM a b r _ q z
theorem FN(s:Int):∀ (n k:Nat),(run s n).drop k=run (s+k) (n-k)
 | n,0=>by simp
 | 0,k+1=>by simp[run]
 | n+1,k+1=>by
  rw[run,List.drop_succ_cons,FN (s+1) n k];have e1:s+1+(k:Int)=s+((k+1:Nat):Int):=by lia
  have e2:n+1-(k+1)=n-k:=by lia
  rw[e1,e2]
theorem FO(s:Int):∀ (n k:Nat),(run s n).take k=run s (min k n)
 | n,0=>by simp[run]
 | 0,k+1=>by simp[run]
 | n+1,k+1=>by
  rw[run,List.take_succ_cons,FO (s+1) n k];have e2:min (k+1) (n+1)=min k n+1:=by lia
  rw[e2,run]
def Mx(a b h:Int)(p:Int × Int)(hp:p.1<=p.2):bK (OU a b h p)=((jG p).take (b-h).toNat).drop (a-h).toNat:=by
 let⟨s,e⟩:=p;simp only at hp;unfold OU jG;simp only;rw[FO,FN,← Int.ofNat_toNat (a-h)];generalize (a-h).toNat=n;generalize b-h=x;have y0:0<=e-s:=by lia
 generalize e-s=y at y0
 have em:min x.toNat y.toNat=(min x y).toNat:=by
  rcases Int.le_total x y with c|c
  ·rw[Int.min_eq_left c,Nat.min_eq_left (Int.toNat_le_toNat c)]
  ·rw[Int.min_eq_right c,Nat.min_eq_right (Int.toNat_le_toNat c)]
 rw[em];generalize min x y=m;clear em y0 hp;by_cases c:(n:Int)<m
 ·rw[if_pos c,gw,jG];simp only;rw[Int.add_sub_add_left,Int.toNat_sub']
 ·rw[if_neg c,Nat.sub_eq_zero_of_le (Int.toNat_le.mpr (Int.not_lt.mp c))];rfl
def Ai(b h:Int)(L:Nat):(b-(h+L)).toNat=(b-h).toNat-L:=by rw[← Int.sub_sub,Int.toNat_sub']
theorem sN(a b:Int):∀ (r:Row) (h:Int),(∀ p∈r,p.1<=p.2)->bK (kM a b h r)=((bK r).take (b-h).toNat).drop (a-h).toNat
 | [],h,_=>by simp[kM,bK]
 | p::r,h,ok=>by
  have hp:=ok p (wO ..);have ih:=sN a b r (h+(p.2-p.1)) λq hq=>ok q (nI _ hq);have e:bK (p::r)=jG p++bK r:=rfl;have hl:=yD p hp;rw[kM,cZ,Mx a b h p hp,ih,e,List.take_append,List.drop_append,gr];congr 1;rw[← hl,Ai,Ai];by_cases hb:↑(jG p)<=(b-h).toNat
  ·rw[Nat.min_eq_right hb]
  ·rw[Nat.sub_eq_zero_of_le (Nat.le_of_not_le hb)];simp
def Sw(a b t:Int):Prop:=0<=a/\a<=b/\b<=t
class inductive FP
 | mk (r:Addr) (row:Row) (a b:Int) (_:vs=[↥r,.int a,.int b]) (_:bW H r row) (_:↑row<=1000000) (_ :
 ∀ (q:Addr) (H':Hp),bW H' q (kM a b 0 row)->aI H H'->H q=none->Q ↥q H')
end gB
namespace gB
open L2 cX fO
end gB
namespace gB
open L2 cX fO
def nA(r:Row)(ok:∀ p∈r,p.1<=p.2):bK (cy r)=bK r:=by rw[vK r ok,dz]
def pZ(a b:Int)(row:Row)(ok:∀ p∈row,p.1<=p.2):bK (cy (kM a b 0 row))=((bK row).take b.toNat).drop a.toNat:=by
 rw[nA _ (DM a b row 0),sN a b row 0 ok,Int.sub_zero,Int.sub_zero]
theorem DN(s:Int):∀ (n k:Nat),k<n->(run s n)[k]?=⇑(s+k)
 | 0,k,h=>by lia
 | n+1,0,_=>by simp[run]
 | n+1,k+1,h=>by
  rw[run,List.getElem?_cons_succ,DN (s+1) n k ∅];congr 1;lia
def lY(r:Row):↑(cy r)<=↑r:=by
 have z:=FI r [];simpa [cy] using z
end gB
namespace gB
open Spec Rows L2 cX fO
def bM.append{H:Hp}{as bs:List Addr}{r q:Row}(h:bM H as r)(t:bM H bs q):bM H (as++bs) (r++q):=by
 induction h with
 | nil=>exact t
 | cons e _ ih=>exact .cons e ih
theorem WW{r q:Row}(h:∀ p∈r,p.1<=p.2)(g:∀ p∈q,p.1<=p.2):∀ p∈r++q,p.1<=p.2:=λp hp=>(List.mem_append.mp hp).elim (h p) (g p)
end gB
namespace L2
open Spec Rows
section
variable {κ:Type} [DecidableEq κ]
def cL(kvs:List (κ × V))(k:κ):Option V:=(kvs.find? λkv=>decide (kv.1=k)).map (·.2)
def dc(kvs:List (κ × V))(k:κ)(v:V):List (κ × V) :=
 if (kvs.any λkv=>decide (kv.1=k))=true then kvs.map (λkv=>if kv.1=k then (kv.1,v) else kv) else kvs++[(k,v)]
def ig{p:κ × V}{r:List (κ × V)}{k:κ}(e:p.1=k):cL (p::r) k=⇑p.2:=by simp[cL,List.find?_cons,e]
def ir{p:κ × V}{r:List (κ × V)}{k:κ}(e:¬ p.1=k):cL (p::r) k=cL r k:=by simp[cL,List.find?_cons,e]
theorem mL(k:κ):∀ kvs:List (κ × V),(kvs.any λkv=>decide (kv.1=k))=(cL kvs k).isSome
 | []=>rfl
 | p::r=>by
  rw[List.any_cons];by_cases e:p.1=k
  ·simp only[ig e,decide_eq_true e,Bool.true_or,Option.isSome_some]
  ·rw[ir e,decide_eq_false e,Bool.false_or];exact mL k r
theorem FQ(k j:κ)(y:V):∀ kvs:List (κ × V),cL (kvs.map λkv=>if kv.1=k then (kv.1,y) else kv) j=(cL kvs j).map λx=>if j=k then y else x
 | []=>rfl
 | p::r=>by
  have ih:=FQ k j y r;rw[jy];by_cases h:p.1=k
  ·rw[if_pos h];by_cases e:p.1=j
   ·rw[ig (p:=(p.1,y)) e,ig e,Option.map_some,if_pos (e.symm.trans h)]
   ·rw[ir (p:=(p.1,y)) e,ir e,ih]
  ·rw[if_neg h];by_cases e:p.1=j
   ·rw[ig (p:=p) e,ig e,Option.map_some,if_neg (λz=>h (e.trans z))]
   ·rw[ir (p:=p) e,ir e,ih]
theorem CL(k j:κ)(y:V):∀ kvs:List (κ × V),cL kvs k=none->cL (kvs++[(k,y)]) j=if j=k then some y else cL kvs j
 | [],_=>by
  by_cases e:k=j
  ·rw[if_pos e.symm];exact ig (p:=(k,y)) e
  ·rw[if_neg (λz=>e z.symm)];exact ir (p:=(k,y)) e
 | p::r,hn=>by
  rw[List.cons_append];have hk:¬ p.1=k:=λz=>by rw[ig z]at hn;cases hn
  rw[ir hk]at hn;have ih:=CL k j y r hn;by_cases e:p.1=j
  ·rw[ig e,ig e,if_neg (λz=>hk (e.trans z))]
  ·rw[ir e,ir e,ih]
def kj(kvs:List (κ × V))(k j:κ)(y:V):cL (dc kvs k y) j=if j=k then some y else cL kvs j:=by
 unfold dc;by_cases a:(kvs.any λkv=>decide (kv.1=k))=true
 ·rw[if_pos a,FQ];rw[mL]at a;by_cases e:j=k
  ·let⟨x,hx⟩:=Option.isSome_iff_exists.mp a;rw[if_pos e,e,hx,Option.map_some,if_pos rfl]
  ·rw[if_neg e]
   cases cL kvs j with
   | none=>rfl
   | some x=>rw[Option.map_some,if_neg e]
 ·rw[if_neg a];refine CL k j y kvs ?_;rw[mL]at a
  cases q:cL kvs k with
  | none=>rfl
  | some x=>rw[q]at a;exact (a rfl).elim
def gb(kvs:List (κ × V))(k:κ)(v:V):↑(dc kvs k v)<=↑kvs+1:=by
 unfold dc;split
 ·rw[cB];lia
 ·rw[cT,jS,lM];lia
def Aj{kvs:List (κ × V)}{k:κ}(v:V)(h:cL kvs k=none):dc kvs k v=kvs++[(k,v)]:=by
 unfold dc;rw[mL,h];exact if_neg (by decide)
def qI.xD{o:Option V}{u:Option Value}(r:qI o u):o.isSome=u.isSome:=by
 cases o with
 | none=>cases u with
  | none=>rfl
  | some _=>exact (show False from r).elim
 | some _=>cases u with
  | none=>exact (show False from r).elim
  | some _=>rfl
def qI.getD{o:Option V}{u:Option Value}{d:V}{d':Value}(r:qI o u)(rd:RelV d d'):RelV (o.getD d) (u.getD d'):=by
 cases o with
 | none=>cases u with
  | none=>exact rd
  | some _=>exact (show False from r).elim
 | some _=>cases u with
  | none=>exact (show False from r).elim
  | some _=>exact r
def KV.val{kvs:List (κ × V)}{vs:List (κ × Value)}(r:KV kvs vs)(k:κ):qI (cL kvs k) (valueAt vs k):=by
 unfold KV at r
 induction r with
 | nil=>exact True.intro
 | @cons p q ps qs h t ih =>
  let⟨h1,h2⟩:=h;by_cases e:p.1=k
  ·have e':q.1=k:=h1.symm.trans e;have b:valueAt (q::qs) k=⇑q.2:=by simp[valueAt,List.find?_cons,e']
   rw[ig e,b];exact h2
  ·have e':¬ q.1=k:=λz=>e (h1.trans z);have b:valueAt (q::qs) k=valueAt qs k:=by simp[valueAt,List.find?_cons,e']
   rw[ir e,b];exact ih
def KV.any{kvs:List (κ × V)}{vs:List (κ × Value)}(r:KV kvs vs)(k:κ):(kvs.any λkv=>decide (kv.1=k))=vs.any λkv=>decide (kv.1=k):=by
 unfold KV at r
 induction r with
 | nil=>rfl
 | cons h t ih=>rw[List.any_cons,List.any_cons,ih,h.1]
theorem KV.repl{kvs:List (κ × V)}{vs:List (κ × Value)}(r:KV kvs vs)(k:κ){y:V}{u:Value}(ry:RelV y u) :
  KV (kvs.map λkv=>if kv.1=k then (kv.1,y) else kv) (vs.map λkv=>if kv.1=k then (kv.1,u) else kv):=by
 unfold KV at r ⊢
 induction r with
 | nil=>exact .nil
 | @cons p q ps qs h t ih =>
  rw[jy,jy];refine .cons ?_ ih;let⟨h1,h2⟩:=h;by_cases e:p.1=k
  ·rw[if_pos e,if_pos (h1.symm.trans e)];exact⟨h1,ry⟩
  ·rw[if_neg e,if_neg (λz=>e (h1.trans z))];exact⟨h1,h2⟩
def KV.put{kvs:List (κ × V)}{vs:List (κ × Value)}(r:KV kvs vs)(k:κ){y:V}{u:Value}(ry:RelV y u):KV (dc kvs k y) (stored vs k u):=by
 unfold dc stored;rw[r.any k];by_cases e:(vs.any λkv=>decide (kv.1=k))=true
 ·rw[if_pos e,if_pos e];exact r.repl k ry
 ·rw[if_neg e,if_neg e];exact Paired.snoc r ⟨rfl,ry⟩
theorem KV.length{kvs:List (κ × V)}{vs:List (κ × Value)}(r:KV kvs vs):↑kvs=↑vs:=Paired.length r
end
def Ak{P:Program}{w:World}{k:dN}{u:Value}(r:RelV (kV k) u):(eE P w).is k u=true:=by
 cases k with
 | inl i=>let⟨t,e⟩:=(show ∃ t,u=Value.int i t from r);subst e;exact Fb P w i t
 | inr x=>let⟨t,e⟩:=(show ∃ t,u=Value.str x t from r);subst e;exact Fc P w x t
theorem CM{P:Program}{w:World}:∀ {ks:List dN} {us:List Value},b8 (ks.map kV) us->ItemsAre (eE P w) ks us
 | [],_,r=>by rw[List.map_nil]at r;cases r;exact .nil
 | k::ks,_,r=>by
  rw[jy]at r
  cases r with
  | cons h t=>exact .cons (Ak h) (CM t)
abbrev KT(H:Hp):List (List dN × V)->List (List dN × Addr × Value)->Prop:=Paired λp q=>p.1=q.1/\H q.2.1=⇑(.tup (p.1.map kV))/\RelV p.2 q.2.2
def KT.val{H:Hp}{kvs:List (List dN × V)}{xs:List (List dN × Addr × Value)}(r:KT H kvs xs)(k:List dN):qI (cL kvs k) ((atKey xs k).map (·.2)):=by
 induction r with
 | nil=>exact True.intro
 | @cons p q ps qs h t ih =>
  let⟨h1,_,h2⟩:=h;by_cases e:p.1=k
  ·have e':q.1=k:=h1.symm.trans e;have b:atKey (q::qs) k=⇑q.2:=by simp[atKey,List.find?_cons,e']
   rw[ig e,b];exact h2
  ·have e':¬ q.1=k:=λz=>e (h1.trans z);have b:atKey (q::qs) k=atKey qs k:=by simp[atKey,List.find?_cons,e']
   rw[ir e,b];exact ih
theorem KT.repl{H:Hp}{kvs:List (List dN × V)}{xs:List (List dN × Addr × Value)}(r:KT H kvs xs)(k:List dN){y:V}{u:Value}(ry:RelV y u) :
  KT H (kvs.map λkv=>if kv.1=k then (kv.1,y) else kv) (xs.map (putAt k u)):=by
 induction r with
 | nil=>exact .nil
 | @cons p q ps qs h t ih =>
  rw[jy,jy];refine .cons ?_ ih;let⟨h1,h2,h3⟩:=h;unfold putAt;by_cases e:p.1=k
  ·rw[if_pos e,if_pos (h1.symm.trans e)];exact⟨h1,h2,ry⟩
  ·rw[if_neg e,if_neg (λz=>e (h1.trans z))];exact⟨h1,h2,h3⟩
theorem KT.put{H:Hp}{kvs:List (List dN × V)}{xs:List (List dN × Addr × Value)}(r:KT H kvs xs)(k:List dN){b:Addr}{y:V}{u:Value}(hb:H b=⇑(.tup (k.map kV)))(ry:RelV y u) :
  KT H (dc kvs k y) (storedH xs k b u):=by
 have e:(kvs.any λkv=>decide (kv.1=k))=(atKey xs k).isSome:=by
  rw[mL,(r.val k).xD,Option.isSome_map]
 unfold dc storedH;rw[e];by_cases q:(atKey xs k).isSome=true
 ·rw[if_pos q,if_pos q];exact r.repl k ry
 ·rw[if_neg q,if_neg q];exact Paired.snoc r ⟨rfl,hb,ry⟩
theorem KT.keeps{H H':Hp}{kvs:List (List dN × V)}{xs:List (List dN × Addr × Value)}(r:KT H kvs xs)(ht:∀ b ys,H b=⇑(.tup ys)->H' b=⇑(.tup ys)):KT H' kvs xs :=
 Paired.Ig r λ_ _ z=>⟨z.1,ht _ _ z.2.1,z.2.2⟩
section
variable {P:Program} {w:World} {H:Hp} {h:Heap} {a:Addr}
theorem UZ{u:HO}(ok:vq P w H h)(e:Rd H a u):fC P w H h a u:=e.ok ok
theorem CN{kvs:List (dN × V)}(ok:vq P w H h)(e:Rd H a (.dK kvs)):↑kvs<=sizeLine/\(a == sysModules)=false/\∃ vs,KV kvs vs/\h.DictOf (eE P w) a vs :=
 show fC P w H h a (.dK kvs) from UZ ok e
theorem FT{kvs:List (dN × V)}(ok:vq P w H h)(e:H a=⇑(.dK kvs)):↑kvs<=sizeLine/\(a == sysModules)=false/\∃ vs,KV kvs vs/\h.DictOf (eE P w) a vs:=CN ok (.inl e)
def Al{ks:List dN}(ok:vq P w H h)(e:H a=⇑(.tup (ks.map kV))):(tupleKind (eE P w)).is h ks a:=by
 let⟨_,aP,r,o,h1,h2,n,h3⟩:=(show fC P w H h a (.tup (ks.map kV)) from ok a _ e);exact⟨o,aP.toArray,n,h1,h2,h3,by simpa using CM r⟩
theorem CO{kvs:List (List dN × V)}(ok:vq P w H h)(e:Rd H a (.dT kvs)):↑kvs<=sizeLine/\(a == sysModules)=false/\
  ∃ xs,KT H kvs xs/\h.DictOfH (tupleKind (eE P w)) a xs:=by
 let⟨z,y,xs,r,o,es,ep,h1,h2,h3,h4,h5⟩:=(show fC P w H h a (.dT kvs) from UZ ok e);refine⟨z,y,xs,r,o,es,ep,h1,h2,h3,h4,λx hx=>?_,h5⟩
 have all:∀ {l:List (List dN × V)} {m:List (List dN × Addr × Value)},KT H l m->∀ x∈m,(tupleKind (eE P w)).is h x.1 x.2.1:=by
  intro l m q
  induction q with
  | nil=>intro x hx;exact nomatch hx
  | @cons p q ps qs hq t ih =>
   intro x hx;rcases List.mem_cons.mp hx with e|hx
   ·subst e;exact Al ok (by rw[← hq.1];exact hq.2.1)
   ·exact ih x hx
 exact all r x hx
theorem aao{kvs:List (List dN × V)}(ok:vq P w H h)(e:H a=⇑(.dT kvs)):↑kvs<=sizeLine/\(a == sysModules)=false/\
  ∃ xs,KT H kvs xs/\h.DictOfH (tupleKind (eE P w)) a xs:=CO ok (.inl e)
end
def jj(H:Hp)(a:Addr)(y:V)(r:Option V):Prop :=
 (∃ kvs k,Rd H a (.dK kvs)/\y=kV k/\r=cL kvs k)\/∃ kvs k b,Rd H a (.dT kvs)/\y=↥b/\H b=⇑(.tup (k.map kV))/\r=cL kvs k
def vM(H:Hp)(a:Addr)(y v:V)(H':Hp):Prop :=
 (∃ kvs k,H a=⇑(.dK kvs)/\y=kV k/\↑kvs<sizeLine/\H'=aN H a (.dK (dc kvs k v)))\/
 ∃ kvs k b,H a=⇑(.dT kvs)/\y=↥b/\H b=⇑(.tup (k.map kV))/\↑kvs<sizeLine/\H'=aN H a (.dT (dc kvs k v))
theorem jj.k{H:Hp}{a:Addr}{kvs:List (dN × V)}{k:dN}(e:H a=⇑(.dK kvs)):jj H a (kV k) (cL kvs k):=.inl ⟨kvs,k,.inl e,K⟩
theorem vM.k{H:Hp}{a:Addr}{kvs:List (dN × V)}{k:dN}{v:V}(e:H a=⇑(.dK kvs))(hl:↑kvs<sizeLine):vM H a (kV k) v (aN H a (.dK (dc kvs k v))):=.inl ⟨kvs,k,e,rfl,hl,rfl⟩
section
variable {X:Cx} {ao:List (Addr × Obj)} {σ:St} {H:Hp} {s:Shared} {a:Addr} {y v:V} {u r:Value} {o:Option V} {A:Around} {E:Value->Shared->Prop}
def Inv.big(I:Inv X ao σ H s):sysModules<s.heap.objs.size:=by
 have h:mainGlobals<s.heap.objs.size:=(I.mod.glob.keeps I.bk).lt;exact Nat.lt_trans (by decide) h
theorem My{Q:Value->Shared->Prop}(hu:A.units+1<cLine)(I:Inv X ao σ H s)(g:jj H a y (⇑v))(ry:RelV y u)(h:∀ w' s',Inv X ao σ H s'->RelV v w'->Q w' s') :
  wpAny (model X.prog X.w) A (getItem ↥a u) Q E s:=by
 rcases g with ⟨kvs,k,e,ey,l⟩|⟨kvs,k,b,e,ey,eb,l⟩
 ·subst ey;let⟨z,hd,vs,sO,dd⟩:=CN I.hok e;let⟨w',hw,iW⟩:=qI.some_of (v:=v) (o:=valueAt vs k) (by rw[l];exact sO.val k);exact wpAny_getItem_of (Ak ry) dd.mapOf hw (h w' _ (I.tok _) iW)
 ·subst ey;cases (show u=Value.ref b from ry);let⟨z,hd,xs,sO,dd⟩:=CO I.hok e;let⟨w',hw,iW⟩:=qI.some_of (v:=v) (o:=(atKey xs k).map (·.2)) (by rw[l];exact sO.val k);let⟨p,hp,U0⟩:=Option.map_eq_some_iff.mp hw;refine wpAny_getItem_heap (tupleKind_room_in1 hu) (Al I.hok eb) dd hp ?_;rw[U0];exact h w' _ (I.tok _) iW
theorem Sx{Q:Value->Shared->Prop}(hu:A.units+1<cLine)(I:Inv X ao σ H s)(g:jj H a y o)(ry:RelV y u)(h:∀ s',Inv X ao σ H s'->Q (.bool (!o.isSome)) s') :
  wpAny (model X.prog X.w) A (compareOp .NotIn u ↥a) Q E s:=by
 rcases g with ⟨kvs,k,e,ey,l⟩|⟨kvs,k,b,e,ey,eb,l⟩
 ·subst ey;let⟨z,hd,vs,sO,dd⟩:=CN I.hok e;refine wpAny_notIn_of (Ak ry) hd dd.mapOf ?_;rw[← (sO.val k).xD,← l];exact h _ (I.tok _)
 ·subst ey;cases (show u=Value.ref b from ry);let⟨z,hd,xs,sO,dd⟩:=CO I.hok e;refine wpAny_notIn_heap (tupleKind_room_in1 hu) (Al I.hok eb) hd dd ?_;have q:=(sO.val k).xD;rw[Option.isSome_map]at q;rw[← q,← l];exact h _ (I.tok _)
theorem zq{h':Heap}{t':Nat}{ob:HO}(I:Inv X ao σ H s)(mu:Zh (H a))(hs:Heap.SameBut a s.heap h')(he:∃ q,h'.get? a=⇑q)(new:fC X.prog X.w (aN H a ob) h' a ob) :
  Inv X ao σ (aN H a ob) { s with heap:=h',toks:=t' } :=
 I.write (x:=a) (e:=a) mu (.inl rfl) (λb q hb z=>(hs.2 b hb).trans z) he new
theorem Jd{P:Program}{w:World}{H':Hp}{h':Heap}{kvs:List (dN × V)}{vs:List (dN × Value)}(z:↑kvs<=sizeLine)(hd:(a == sysModules)=false)(sO:KV kvs vs)(dd:h'.DictOf (eE P w) a vs) :
  fC P w H' h' a (.dK kvs):=⟨z,hd,vs,sO,dd⟩
theorem Mz{H':Hp}{Q:Unit->Shared->Prop}(hu:A.units+1<cLine)(I:Inv X ao σ H s)(g:vM H a y v H')(ry:RelV y u)(rv:RelV v r)(h:∀ s',Inv X ao σ H' s'->Q () s') :
  wpAny (model X.prog X.w) A (setItem ↥a u r) Q E s:=by
 rcases g with ⟨kvs,k,e,ey,l,eH⟩|⟨kvs,k,b,e,ey,eb,l,eH⟩
 ·subst ey eH;let⟨z,hd,vs,sO,dd⟩:=FT I.hok e;have hz:↑vs<=sizeLine:=by rw[← ↑sO];exact z
  have hl:↑(dc kvs k v)<=sizeLine:=by have:=gb kvs k v;lia
  refine wpAny_setItem_pairs (hsz:=hz) (Ak ry) dd λh' Rj hs=>h _ ?_;have he:∃ q,h'.get? a=⇑q:=let ⟨q,E,hq,_⟩:=Rj;⟨q,hq⟩;exact zq I (by rw[e];exact True.intro) hs he (Jd hl hd (sO.put k rv) Rj)
 ·subst ey eH;cases (show u=Value.ref b from ry);let⟨z,hd,xs,sO,dd⟩:=aao I.hok e;have hz:↑xs<=sizeLine:=by rw[← Paired.length sO];exact z
  have hl:↑(dc kvs k v)<=sizeLine:=by have:=gb kvs k v;lia
  refine wpAny_setItem_heap (hsz:=hz) (tupleKind_room_in1 hu) (Al I.hok eb) dd λh' Rj hs=>h _ ?_;let⟨q,es,ep,hq,h2,h3,h4,_,h5⟩:=Rj;refine zq I (by rw[e];exact True.intro) hs ⟨q,hq⟩ ⟨hl,hd,_,(sO.put k eb rv).keeps λc ys ec=>?_,q,es,ep,hq,h2,h3,h4,h5⟩;rw[aL (cK ec e (λz=>nomatch z))];exact ec
end
def WX(i:Expr):Prop:=∀ ov iv,subscripted i false ov iv=operate [ov,iv] (getItem ov iv)
theorem Sy{prog:Program}{w:World}{A:Around}{E:Value->Shared->Prop}{s:Shared}{env:Env}{T id:String}{Q:Value->Shared->Prop}
  (hl:typeLookup (.type T) "__getitem__"=pure (⇑(.builtin id))) (hs:WX vB)
  (h:wpAny (model prog w) A (eval value env) (λo s₁=>wpAny (model prog w) A (eval vB env) (λi s₂=>s₂.TypeIs o T/\wpAny (model prog w) A (getItem o i) Q E s₂) E s₁) E s) :
  wpAny (model prog w) A (eval (.Subscript value vB pos) env) Q E s:=by
 refine Subscript_ (wpAny_mono h (λo s₁ h₁=>wpAny_mono h₁ (λi s₂ h₂=>?_) λ_ _ x=>x) λ_ _ x=>x);let⟨hT,h₂⟩:=h₂;unfold subscriptTail;refine wpAny_bind ?_;rw[getitemInPython_of_ne hT.not_modules];refine wpAny_bind (wpAny_specialOf hT hl ?_)
 have iS:wpAny (model prog w) A (subscripted vB false o i) (λr s₃=>wpAny (model prog w) A (letTemporaryGo value o r >>= λ_=>pure r) Q E s₃) E s₂:=by
  rw[hs o i];exact wpAny_operating (wpAny_mono h₂ (λr s₃ h₃=>wpAny_bind (wpAny_letTemporaryGo (wpAny_pure h₃))) λ_ _ x=>x)
 first
  | exact wpAny_pure (wpAny_bind iS)
  | exact wpAny_bind (wpAny_pure (wpAny_bind iS))
  | exact wpAny_bind iS
def FU{X:Cx}{σ:St}{H:Hp}{s:Shared}{a:Addr}{y:V}{o:Option V}(I:Inv X ao σ H s)(g:jj H a y o):s.TypeIs ↥a "dict":=by
 rcases g with ⟨kvs,k,e,_,_⟩|⟨kvs,k,b,e,_,_,_⟩
 ·let⟨_,_,vs,_,dd⟩:=CN I.hok e;exact dd.typeIs
 ·let⟨_,_,xs,_,dd⟩:=CO I.hok e;exact dd.typeIs
inductive aap(x y:V)(H:Hp)(Q:VK):Prop
 | mk (a:Addr) (v:V) (_:x=↥a) (_:jj H a y (⇑v)) (_:Q v H):aap x y H Q
def U5(td ty:TE):TE:=fun σ H Q=>td σ H λx H1=>ty σ H1 λy H2=>aap x y H2 Q
def Sz(ty td:TE):TE:=fun σ H Q=>ty σ H λy H1=>td σ H1 λx H2=>∃ a o,x=↥a/\jj H2 a y o/\Q (.bl (!o.isSome)) H2
def aaq(td ty tv:TE):TS:=λD σ H=>tv σ H λv H1=>td σ H1 λx H2=>ty σ H2 λy H3=>∃ a H4,x=↥a/\vM H3 a y v H4/\D.nx σ H4
section
variable {X:Cx} {o i e value:Expr} {pos iU LY:Pos} {td ty tv:TE}
def SA(hu:X.A.units+1<cLine)(ho:PE X o td)(hi:PE X i ty)(hs:WX i):PE X (.Subscript o i pos) (U5 td ty):=by
 intro ao s σ H Q I h;refine Sy PySem.F.slot_dict_getitem.lookup hs (c9 (ho ao s σ H _ I h) λu s1 ⟨x,H1,I1,rx,q1⟩=>c9 (hi ao s1 σ H1 _ I1 q1) λiv s2 zI=>?_);let⟨y,H2,I2,ry,a,v,ex,g,q2⟩:=zI;subst ex;obtain rfl:u=Value.ref a:=rx;exact⟨FU I2 g,My hu I2 g ry λw' s3 I3 iW=>⟨v,H2,I3,iW,q2⟩⟩
def CP(hu:X.A.units+1<cLine)(hi:PE X i ty)(ho:PE X o td):PC X .NotIn i o (Sz ty td):=by
 intro ao s σ H Q I h;refine c9 (hi ao s σ H _ I h) λiv s1 ⟨y,H1,I1,ry,q1⟩=>c9 (ho ao s1 σ H1 _ I1 q1) λu s2 Dy=>?_;let⟨x,H2,I2,rx,a,ov,ex,g,q2⟩:=Dy;subst ex;obtain rfl:u=Value.ref a:=rx;exact Sx hu I2 g ry λs3 I3=>⟨.bl (!ov.isSome),H2,I3,rfl,q2⟩
theorem lR(hu:X.A.units+1<cLine)(ho:PE X o td)(hi:PE X i ty)(hv:PE X value tv)(hs:swapsWith value (⇑(.Subscript o i iU)) pos.line X.env=pure false) :
  PS X (.Assign [.Subscript o i iU] value pos) (aaq td ty tv):=by
 intro ao s σ H D I h;refine wpAny_Assign_Subscript (c9 (hv ao s σ H _ I h) λr s1 ⟨v,H1,I1,rv,q1⟩=>c9 (ho ao s1 σ H1 _ I1 q1) λu s2 ⟨x,H2,I2,rx,q2⟩=>c9 (hi ao s2 σ H2 _ I2 q2) λiv s3 ⟨y,H3,I3,ry,a,H4,ex,g,q3⟩=>?_) hs;subst ex;obtain rfl:u=Value.ref a:=rx;exact Mz hu I3 g ry rv λs4 I4=>⟨σ,H4,I4,q3⟩
end
theorem FW{P:Program}{w:World}{H:Hp}(h:Heap)(hb:sysModules<h.objs.size):fC P w H (h.push { cls:=.type "dict",data:=.dict #[] }) h.objs.size (.dK []) :=
 ⟨Nat.zero_le _,beq_eq_false_iff_ne.mpr (Ne.symm (jv hb)),[],.nil,Heap.DictOf.new h⟩
def WY:TE:=λ_ H Q=>∀ p,H p=none->Q ↥p (aN H p (.dK []))
section
variable {X:Cx} {pos:Pos}
theorem ko:PE X (.Dict [] [] pos) WY:=λao s σ H Q I h =>
 wpAny_Dict_empty ⟨↥s.heap.objs.size,_,I.laid (a:=s.heap.objs.size) (o:=.dK []) (t':=s.toks) (λ_ _ q=>Heap.get?_push_of_some _ q) (fK _) (FW s.heap I.big),rfl,h _ (I.hok.fresh (fK _))⟩
end
def Je:List (TE × TE)->St->Hp->(List (V × V)->Hp->Prop)->Prop
 | [],_,H,Q=>Q [] H
 | (tk,tv)::r,σ,H,Q=>tk σ H λx H1=>tv σ H1 λy H2=>Je r σ H2 λps H3=>Q ((x,y)::ps) H3
abbrev VV:List (V × V)->List (Value × Value)->Prop:=Paired λp q=>RelV p.1 q.1/\RelV p.2 q.2
def PPs(X:Cx)(pos:Pos)(FY:List (Option Expr))(Am:List Expr)(SD:List (TE × TE)):Prop :=
 ∀ (ao:List (Addr × Obj)) (s:Shared) (σ:St) (H:Hp) (Q:List (V × V)->Hp->Prop),Inv X ao σ H s->Je SD σ H Q->
  wpAny (model X.prog X.w) X.A (evalPairs (pairTrees FY Am X.env pos)) (λvs s'=>∃ ps H',Inv X ao σ H' s'/\VV ps vs/\Q ps H') X.xe s
theorem SE{X:Cx}:PPs X pos [] [] []:=λao s σ H Q I h=>pairTrees_nil_walk ⟨[],H,I,.nil,h⟩
theorem vN{X:Cx}{k v:Expr}{ks:List (Option Expr)}{tk tv:TE}{SD:List (TE × TE)}(hk:PE X k tk)(hv:PE X v tv)(hr:PPs X pos ks vs SD) :
  PPs X pos (⇑k::ks) (v::vs) ((tk,tv)::SD):=λao s σ H Q I h =>
 pairTrees_cons_walk (c9 (hk ao s σ H _ I h) λu s1 ⟨x,H1,I1,rx,q1⟩=>c9 (hv ao s1 σ H1 _ I1 q1) λw2 s2 ⟨y,H2,I2,ry,q2⟩ =>
  c9 (hr ao s2 σ H2 _ I2 q2) λws s3 ⟨ps,H3,I3,sO,q3⟩=>⟨(x,y)::ps,H3,I3,.cons ⟨rx,ry⟩ sO,q3⟩)
def xE(kvs more:List (dN × V)):List (dN × V):=more.foldl (λacc kv=>dc acc kv.1 kv.2) kvs
def KV.merge:∀ {more:List (dN × V)} {rs:List (dN × Value)} {kvs:List (dN × V)} {vs:List (dN × Value)},KV more rs->KV kvs vs->KV (xE kvs more) (merged vs rs):=by
 intro more rs kvs vs r;unfold KV at r
 induction r generalizing kvs vs with
 | nil=>intro q;exact q
 | @cons p q ps qs h t ih =>
  intro r0
  have e:KV (dc kvs p.1 p.2) (stored vs q.1 q.2):=by
   have:=r0.put p.1 h.2;rw[← h.1];exact this
  exact ih e
theorem ud:∀ (more kvs:List (dN × V)),↑(xE kvs more)<=↑kvs+↑more
 | [],kvs=>by show ↑kvs<=↑kvs+0;lia
 | p::r,kvs=>by
  have h1:=ud r (dc kvs p.1 p.2);have h2:=gb kvs p.1 p.2;show ↑(xE (dc kvs p.1 p.2) r)<=_;rw[jS];lia
theorem An{P:Program}{w:World}:∀ {kvs:List (dN × V)} {ws:List (Value × Value)},VV (kvs.map λkv=>(kV kv.1,kv.2)) ws->∃ rs,Carries (eE P w) ws rs/\KV kvs rs
 | [],_,r=>by rw[List.map_nil]at r;cases r;exact⟨[],True.intro,.nil⟩
 | p::kvs,_,r=>by
  rw[jy]at r
  cases r with
  | @cons a b as bs h t =>
   let⟨rs,c,q⟩:=An (P:=P) (w:=w) t;let⟨b1,b2⟩:=b;exact⟨(p.1,b2)::rs,⟨Ak h.1,rfl,c⟩,.cons ⟨rfl,h.2⟩ q⟩
def OW(SD:List (TE × TE)):TE:=fun σ H Q=>∀ p,H p=none->Je SD σ (aN H p (.dK [])) λps H2=>H2 p=⇑(.dK [])/\∃ kvs:List (dN × V),ps=kvs.map (λkv=>(kV kv.1,kv.2))/\↑kvs<=15/\Q ↥p (aN H2 p (.dK (xE [] kvs)))
theorem SG{X:Cx}{FY:List (Option Expr)}{Am:List Expr}{SD:List (TE × TE)}(h:PPs X pos FY Am SD)(Oz:FY.all (·.isSome)=true)(hl:FY.length=Am.length)(h0:FY≠[])
  (h15:FY.length<=15):PE X (.Dict FY Am pos) (OW SD):=by
 intro ao s σ H Q I q;have hn:=I.hok.fresh (fK s.heap.objs.size);have I1:=I.laid (a:=s.heap.objs.size) (o:=.dK []) (h':=s.heap.push { cls:=.type "dict",data:=.dict #[] }) (t':=s.toks) (λ_ _ q=>Heap.get?_push_of_some _ q) (fK _) (FW s.heap I.big);refine wpAny_Dict_walk (knd:=eE X.prog X.w) Oz hl h0 h15 (c9 (h ao _ σ _ _ I1 (q _ hn)) λws s2 Im=>?_);let⟨ps,H2,I2,sO,e,kvs,ep,lk,q2⟩:=Im;subst ep;let⟨rs,c,rk⟩:=An (P:=X.prog) (w:=X.w) sO;let⟨z,hd,vs0,r0,dd⟩:=FT I2.hok e;cases r0;refine⟨rs,c,dd,λh' Rj hs=>⟨↥s.heap.objs.size,_,?_,rfl,q2⟩⟩
 have hz:↑(xE [] kvs)<=sizeLine:=by
  have h1:=ud kvs [];rw[lM]at h1;rw[sizeLine_eq];lia
 have he:∃ q,h'.get? s.heap.objs.size=⇑q:=let ⟨q,E,hq,_⟩:=Rj;⟨q,hq⟩;exact zq I2 (by rw[e];exact True.intro) hs he (Jd hz hd (rk.merge .nil) Rj)
structure M2(X:Cx)(o:Expr)(m:Str)(jX:Pos)(e f:Expr)(oJ:Pos):Prop where
 zt:attributeBase o m X.env (eval o X.env)=eval o X.env
 few:((backTo oJ (starEach [e,f] X.env)).all (λx=>!x.1)&&(backToKw oJ (keywordEach [] X.env)).all (λx=>x.1.isSome)
  && decide (↑([e,f]:List Expr)+↑([]:List Keyword)+(if ([]:List Keyword).isEmpty then 0 else 1)<30))=true
 line:(jX.endLine == oJ.line)=true
 trees:backTo oJ (starEach [e,f] X.env)=[(false,eval e X.env),(false,eval f X.env)]
def IsD(H:Hp)(a:Addr):Prop:=(∃ kvs,Rd H a (.dK kvs))\/∃ kvs,Rd H a (.dT kvs)
theorem OX{X:Cx}{σ:St}{H:Hp}{s:Shared}{a:Addr}(I:Inv X ao σ H s)(d:IsD H a) :
  s.TypeIs ↥a "dict"/\(∀ b,Value.ref a=↥b->∃ ob,s.heap.get? b=⇑ob/\ob.dict=none)/\(a == sysModules)=false:=by
 rcases d with ⟨kvs,e⟩|⟨kvs,e⟩
 ·let⟨_,hd,vs,_,dd⟩:=CN I.hok e;refine⟨dd.typeIs,λb q=>?_,hd⟩;cases q;let⟨ob,_,_,h1,h2,_⟩:=dd;exact⟨ob,h1,h2.2.1⟩
 ·let⟨_,hd,xs,_,dd⟩:=CO I.hok e;refine⟨dd.typeIs,λb q=>?_,hd⟩;cases q;let⟨ob,_,_,h1,h2,_⟩:=dd;exact⟨ob,h1,h2.2.1⟩
section
variable {X:Cx} {ao:List (Addr × Obj)} {σ:St} {H:Hp} {s:Shared} {a:Addr} {y d:V} {u r:Value} {o:Option V} {A:Around} {E:Value->Shared->Prop}
theorem WZ{Q:Value->Shared->Prop}(hu:A.units+1<cLine)(I:Inv X ao σ H s)(g:jj H a y o)(ry:RelV y u)(rd:RelV d r)(h:∀ w' s',Inv X ao σ H s'->RelV (o.getD d) w'->Q w' s') :
  wpAny (model X.prog X.w) A (call (.builtin "dict.get") [↥a,u,r]) Q E s:=by
 rcases g with ⟨kvs,k,e,ey,l⟩|⟨kvs,k,b,e,ey,eb,l⟩
 ·subst ey;let⟨z,hd,vs,sO,dd⟩:=CN I.hok e;refine call_meetsIn PySem.F.slot_dict_get dd.typeIs PySem.F.entry_dict_get (PySem.F.args_dict_get_3 _ _ _) (meets_dict_get_default (eE X.prog X.w) a (Ak ry) hd r) ⟨_,dd.mapOf,h _ _ (I.tok _) ?_⟩;rw[l];exact (sO.val k).getD rd
 ·subst ey;cases (show u=Value.ref b from ry);let⟨z,hd,xs,sO,dd⟩:=CO I.hok e;refine call_meetsIn PySem.F.slot_dict_get dd.typeIs PySem.F.entry_dict_get (PySem.F.args_dict_get_3 _ _ _) (meetsH_dict_get_default (tupleKind (eE X.prog X.w)) a b hd r) ⟨tupleKind_room_in1 hu,k,xs,Al I.hok eb,dd,h _ _ (I.tok _) ?_⟩;rw[l];exact (sO.val k).getD rd
end
def W0(td ty tx:TE):TE:=fun σ H Q=>td σ H λx H1=>∃ a,x=↥a/\IsD H1 a/\ty σ H1 λy H2=>tx σ H2 λz H3=>∃ o,jj H3 a y o/\Q (o.getD z) H3
section
variable {X:Cx} {o e f:Expr} {jX oJ:Pos} {td ty tx:TE}
def FZ(hu:X.A.units+1<cLine)(ho:PE X o td)(he:PE X e ty)(hf:PE X f tx)(m:M2 X o "get" jX e f oJ):PE X (.Call (.Attribute o "get" jX) [e,f] [] oJ) (W0 td ty tx):=by
 intro ao s σ H Q I h;refine wpAny_Call_method m.zt m.few m.line PySem.F.plainAttrs_dict PySem.F.slot_dict_get PySem.F.type_dict_get (c9 (ho ao s σ H _ I h) λu s1 zI=>?_);let⟨x,H1,I1,rx,a,ex,d,q1⟩:=zI;subst ex;obtain rfl:u=Value.ref a:=rx;let⟨t1,t2,_⟩:=OX I1 d;exists t1,t2;rw[m.trees]
 refine Calls.callWith_builtin rfl (Calls.evalArgs_plain (Calls.spliced_cons (c9 (he ao s1 σ H1 _ I1 q1) λiv s2 ⟨y,H2,I2,ry,q2⟩ =>
  Calls.spliced_cons (c9 (hf ao s2 σ H2 _ I2 q2) λfv s3 ⟨z,H3,I3,rz,ov,g,q3⟩=>Calls.spliced_nil ?_))))
 exact WZ hu I3 g ry rz λw' s4 I4 iW=>⟨_,H3,I4,iW,q3⟩
end
end L2
namespace cX
open Spec Rows L2
def ja(X:Cx)(N:List Str)(scope:Scope)(cl:List (Str × Addr))(C:Addr)(s₀:Shared)(H₀:Hp)(ex:List Addr)(pn:List (Addr × Obj)):Cx where
 prog:=X.prog
 w:=X.w
 K:=X.K
 mg:=X.mg
 zt:=X.zt
 A:=X.A
 N:=N
 s₀:=s₀
 H₀:=H₀
 env:=compEnvC scope cl C X.env
 zn:=X.stack
 stack:=X.stack
 ex:=ex
 fn:=λ_=>false
 calm:=X.calm
 pn:=pn
 xe:=λ_ _=>False
structure CQ(X:Cx)(N:List Str)(scope:Scope)(cl:List (Str × Addr))(jx:List (Option Nat)):Prop where
 kind:scope.kind=.function
 cell:∀ x∈scope.names,x.2≠.cell
 names:∀ x∈scope.names,x.2=.local->scope.names.lookup x.1=⇑.local
 clos:closureFor scope X.env=pure cl
 sub:∀ x c,cl.lookup x=⇑c->X.env.cells.lookup x=⇑c
 has:∀ x,((relabel scope X.env).names.lookup x=⇑.cell\/(relabel scope X.env).names.lookup x=⇑.free)->∃ c,cl.lookup x=⇑c
 len:↑jx=↑N
 free:∀ (i j:Nat) (x:Str),jx[i]?=⇑(⇑j)->N[i]?=⇑x->X.N[j]?=⇑x/\X.env.scope.names.lookup x=⇑.cell/\(relabel scope X.env).names.lookup x=⇑.cell
def uW(jx:List (Option Nat))(σ:L2.St):L2.St:=jx.map λo=>o.bind λj=>(σ[j]?).join
section
variable {X:Cx} {N:List Str} {scope:Scope} {cl:List (Str × Addr)} {jx:List (Option Nat)}
theorem yE{σ:L2.St}{H:Hp}{s:Shared}{fp:List Addr}{h₁:Heap}{t:Nat}(cs:CQ X N scope cl jx)(I:Inv X ao σ H s)(hf:∀ b∈fp,pH X ao H b)(qP:∀ b∈fp,b<s.heap.objs.size)
  (NI:h₁.Ns s.heap.objs.size λ_=>none) (hk:∀ b o,s.heap.get? b=⇑o->h₁.get? b=⇑o) :
  Inv (ja X N scope cl s.heap.objs.size s H fp (X.pn++ao)) [] (uW jx σ) H { s with heap:=h₁,toks:=t }:=by
 have sub:∀ {x c},(ja X N scope cl s.heap.objs.size s H fp (X.pn++ao)).env.cells.lookup x=⇑c->X.env.cells.lookup x=⇑c:=λ{x c} e=>cs.sub x c e
 refine⟨⟨I.ok.mod,cs.kind,I.ok.glob,I.ok.blt,fK _,λx y c e e'=>I.ok.inj x y c (sub e) (sub e'),λx hx=>cs.has x hx,λx c z _=>(by cases z),I.ok.hd,I.ok.frames,.inl rfl,λb hb=>⟨Nat.ne_of_lt (qP b hb),λx c e=>(hf b hb).2.2.2.2.1 x c (sub e)⟩,I.bs,gX I.ok.UL I.sz,λb o e hb=>?_,λb hb z=>?_,I.stack,I.Ku⟩,
  rfl,I.bare,Un.kept hk,⟨_,NI,λi x v e1 e2 _=>?_⟩,λx c e=>?_,I.hok.fresh (fK _),λx c e=>I.tU x c (sub e),λp hp=>?_,I.hok.kept hk,by unfold uW;rw[cB];exact cs.len⟩
 ·rcases (hf b hb).2.2.2.1 with z|z
  ·exact I.ok.N3 b o e z
  ·exact absurd (qS (Heap.lt_size (I.ok.bs b o e).1) z) (Nat.lt_irrefl _)
 ·rcases List.mem_cons.mp (I.wR b z) with e|e
  ·exact (hf b hb).2.1 e
  ·exact (hf b hb).2.2.1 e
 ·unfold uW at e2;rw[mY]at e2
  cases ej:jx[i]? with
  | none=>rw[ej]at e2;cases e2
  | some o =>
   rw[ej]at e2
   cases o with
   | none=>cases e2
   | some j =>
    have e3:σ[j]?=⇑(⇑v):=by
     have z:((σ[j]?).join)=⇑v:=oB e2
     cases hs:σ[j]? with
     | none=>rw[hs]at z;cases z
     | some q=>rw[hs]at z;exact congrArg some z
    let⟨f1,f2,f3⟩:=cs.free i j x ej e1;let⟨m,hn,hl⟩:=I.loc;let⟨u,ru,look⟩:=hl j x v f1 e3 (.inr (.inl f2));exists u,ru;rcases look with ⟨k,_⟩|⟨_,c,hc,o,ho,hd⟩
    ·have k':X.env.scope.names.lookup x=⇑.local:=k;rw[f2]at k';cases k'
    ·let⟨c',Zm⟩:=cs.has x (.inl f3);have z:=cs.sub x c' Zm;rw[hc]at z;cases z;exact .inr ⟨.inl f3,c,Zm,o,hk _ _ ho,hd⟩
 ·let⟨v,o,ho,hd⟩:=I.cell x c (sub e);exact⟨v,o,hk _ _ ho,hd⟩
 ·have NL:p∈X.pn++ao:=by
   have z:p∈(X.pn++ao)++[]:=hp;simpa using z
  let⟨e,n,nl,nf,d⟩:=I.pin p NL;refine⟨hk _ _ e,n,jv (Heap.lt_size e),λz=>?_,d⟩;rcases List.mem_cons.mp (I.wR p.1 z) with e|e
  ·exact nl e
  ·exact nf e
theorem xF{σ σ':L2.St}{H H':Hp}{s s':Shared}{fp:List Addr}(I:Inv X ao σ H s)(hf:∀ b∈fp,pH X ao H b)(J:Inv (ja X N scope cl s.heap.objs.size s H fp (X.pn++ao)) [] σ' H' s'):Inv X ao σ H' s' :=
 I.Zn (ch:=fp) J.os J.zt J.hok J.bare λb hb=>⟨(hf b hb).2.2.2.1,(hf b hb).2.1,(hf b hb).2.2.2.2.1,(hf b hb).2.2.2.2.2⟩
def xG{σ σ2:L2.St}{H H':Hp}{s s':Shared}{h':Heap}(I:Inv X ao σ H s)(I4:Inv X ao σ2 H' s')(Kw:H' s.heap.objs.size=none)(hs:Heap.SameBut s.heap.objs.size s'.heap h'):Inv X ao σ2 H' { s' with heap:=h' }:=by
 refine I4.turned (t':=s'.toks) (it:=s.heap.objs.size) (λb o hb e=>hs.extBut _ _ hb e) Kw (Nat.ne_of_gt I.lt) (.inr I.sz) (λx c e z=>?_) λp hp z=>?_
 ·let⟨v,o,ho,_⟩:=I.cell x c e;exact absurd (Heap.lt_size ho) (by rw[z];exact Nat.lt_irrefl _)
 ·exact absurd (Heap.lt_size (I.pin p hp).1) (by rw[z];exact Nat.lt_irrefl _)
def zu(J:It)(acc:Addr)(g:TG)(tt:TT)(te:TE)(σ0:L2.St)(H:Hp)(Q:VK):Prop :=
 ∃ W:Nat->Nat->L2.St->Hp->Prop,(∃ m,W 0 m σ0 H)/\∀ i m σ H,W i m σ H->
  (J.stop i H/\Q ↥acc H)\/(J.go i H/\∃ Nx:L2.St->Hp->Prop,(∀ σ' H',Nx σ' H'->∃ m',m'<m/\W (i+1) m' σ' H')/\∀ x H',J.N7 i H x H'->g x σ H' fun σ2 H2=>tt σ2 H2 λb H3 =>
   if b=true then te σ2 H3 λv H4=>∃ xs,H4 acc=⇑(.lst xs)/\↑xs<sizeLine/\Nx σ2 (aN H4 acc (.lst (xs++[v]))) else Nx σ2 H3)
def xH(jx:List (Option Nat))(wi:TI)(g:TG)(tt:TT)(te:TE):TE:=fun σ H Q=>wi σ H λJ H1=>∀ acc,H1 acc=none->zu J acc g tt te (uW jx σ) (aN H1 acc (.lst [])) Q
theorem CU{iter:Expr}{wi:TI}{g:TG}{tt:TT}{te:TE}(cs:CQ X N scope cl jx)(hc:X.calm=true)(hi:PI X tg iter wi)
  (hg:∀ C s₀ H₀ ex pn,PG (ja X N scope cl C s₀ H₀ ex pn) tg g) (ht:∀ C s₀ H₀ ex pn,Mn (ja X N scope cl C s₀ H₀ ex pn) jR tt) (he:∀ C s₀ H₀ ex pn,PE (ja X N scope cl C s₀ H₀ ex pn) j8 te)
  (hs:∀ x,foldedSetIterable iter X.env x=pure x) {use:Option (Value->Sem Unit)} {Q':Value->Shared->Prop} {Q:VK} {ao:List (Addr × Obj)} {s:Shared} {σ:L2.St} {H:Hp} (I:Inv X ao σ H s) (h:xH jx wi g tt te σ H Q)
  (iS:∀ (s3:Shared) (H3:Hp) (fp:List Addr) (acc:Addr) (σ6:L2.St) (H6:Hp) (s7:Shared),Inv X ao σ H3 s3->(∀ b∈fp,pH X ao H3 b)->Inv (ja X N scope cl s3.heap.objs.size s3 H3 fp (X.pn++ao)) [] σ6 H6 s7->Q ↥acc H6->
   compPost (model X.prog X.w) X.A X.xe use Q' ↥acc s3.heap.objs.size (.ok .next) s7) :
  wpAny (model X.prog X.w) X.A (comprehension (.ListComp j8 [⟨tg,iter,jR,0⟩] scope pos) scope X.env iU (newList []) false (eval iter X.env) use) Q' X.xe s:=by
 refine wpAny_comprehension_free (use:=use) rfl hs cs.clos cs.kind cs.names (c9 (hi ao s σ H _ I h) λv s1 h1=>c9 h1 λZx s2 h2=>?_);let⟨it,fp,tn,J,H2,e,I2,T,st2,f2,q⟩:=h2;subst e;refine wpAny_newObj_type (hd:=by size_fits) ?_;have cP:H2 s2.heap.objs.size=none:=I2.hok.fresh (fK _);have I3:Inv X ao σ (aN H2 s2.heap.objs.size (.lst [])) { s2 with heap:=s2.heap.push { cls:=.type "list",data:=.seq ([]:List Value).toArray },toks:=s2.toks }:=I2.RT (ys:=[]) .nil (Nat.zero_le _)
 have ftn:∀ b∈fp,b<s2.heap.objs.size:=λb hb=>by
  let⟨o,ho,_⟩:=T.obj _ _ st2 b hb;exact Heap.lt_size ho
 have f3:∀ b∈fp,pH X ao (aN H2 s2.heap.objs.size (.lst [])) b:=λb hb=>⟨by rw[aL (jv (ftn b hb))];exact (f2 b hb).1,(f2 b hb).2⟩;have k3:∀ b o,s2.heap.get? b=⇑o->(s2.heap.push { cls:=.type "list",data:=.seq ([]:List Value).toArray }).get? b=⇑o:=λb o e=>Heap.get?_push_of_some _ e;have q3:=q _ cP;generalize hs3:({ s2 with heap:=s2.heap.push { cls:=.type "list",data:=.seq ([]:List Value).toArray },toks:=s2.toks }:Shared)=s3 at I3;generalize hH3:aN H2 s2.heap.objs.size (.lst [])=H3 at I3 f3 q3;have hh3:s3.heap=s2.heap.push { cls:=.type "list",data:=.seq ([]:List Value).toArray }:=by rw[← hs3]
 have Ld:∀ b∈fp,b<s3.heap.objs.size:=λb hb=>by rw[hh3,Heap.size_push];exact Nat.lt_succ_of_lt (ftn b hb)
 have st3:tn 0 s3.heap:=T.keep _ _ _ st2 λb _ o e=>by rw[hh3];exact k3 b o e
 show wpAny _ _ _ _ _ s3;refine wpAny_newFunctionEnv cs.cell (λy hy=>by simp at hy) (λh₁ NI SH=>?_) cs.kind;have kh:∀ b o,s3.heap.get? b=⇑o->h₁.get? b=⇑o:=λb o e=>SH.extBut _ _ (jv (Heap.lt_size e)) (Heap.get?_push_of_some _ e);have J0:Inv (ja X N scope cl s3.heap.objs.size s3 H3 fp (X.pn++ao)) [] (uW jx σ) H3 { s3 with heap:=h₁,toks:=s3.toks+↑([]:List (Str × Value)) }:=yE cs I3 f3 Ld NI kh;have st4:tn 0 h₁:=T.keep _ _ _ st3 λb _ o e=>kh b o e;let⟨W,⟨m0,w0⟩,pG⟩:=q3
 have uz:∀ {H':Hp},(∀ b∈fp,H' b=none)->∀ b∈fp,pH (ja X N scope cl s3.heap.objs.size s3 H3 fp (X.pn++ao)) [] H' b:=λhn b hb=>by
  refine⟨hn b hb,jv (Ld b hb),λz=>?_,.inl hb,λx c e=>(f3 b hb).2.2.2.2.1 x c (cs.sub x c e),λp hp=>?_⟩
  ·rcases List.mem_cons.mp (I3.wR b z) with e|e
   ·exact (f3 b hb).2.1 e
   ·exact (f3 b hb).2.2.1 e
  ·have NL:p∈X.pn++ao:=by
    have z:p∈(X.pn++ao)++[]:=hp;simpa using z
   exact (f3 b hb).2.2.2.2.2 p NL
 have loop:∀ s5:Shared,s5={ s3 with heap:=h₁,toks:=s3.toks+↑([]:List (Str × Value)) }->codeAny (model X.prog X.w) X.A (.compLoop (.ListComp j8 [⟨tg,iter,jR,0⟩] scope pos) 0 ↥it ↥s2.heap.objs.size (ja X N scope cl s3.heap.objs.size s3 H3 fp (X.pn++ao)).env)
   (compPost (model X.prog X.w) X.A X.xe use Q' ↥s2.heap.objs.size s3.heap.objs.size) s5:=by
  rintro s5 rfl;refine Mm (λn s'=>∃ i σ' H',Inv (ja X N scope cl s3.heap.objs.size s3 H3 fp (X.pn++ao)) [] σ' H' s'/\tn i s'.heap/\(∀ b∈fp,H' b=none)/\W i n σ' H') ?_ m0 ⟨0,_,H3,J0,st4,λb hb=>(f3 b hb).1,w0⟩;rintro n s6 ⟨i,σ6,H6,I6,UX,Ri,w6⟩;rcases pG i n σ6 H6 w6 with ⟨stop,qn⟩|⟨go,Nx,hN,step⟩
  ·refine c9 (T.done (ja X N scope cl s3.heap.objs.size s3 H3 fp (X.pn++ao)) rfl rfl rfl hc i [] s6 σ6 H6 _ I6 (uz Ri) UX stop) λr s7 Ij=>?_;let⟨hr,I7⟩:=Ij;subst hr;exact iS s3 H3 fp _ σ6 H6 s7 I3 f3 I7 qn
  ·refine c9 (T.item (ja X N scope cl s3.heap.objs.size s3 H3 fp (X.pn++ao)) rfl rfl rfl hc i [] s6 σ6 H6 _ I6 (uz Ri) UX go) λr s7 Ik=>?_;let⟨u,hr,h7⟩:=Ik;subst hr;refine c9 h7 λ_ s8 Im=>?_;let⟨x,H8,I8,r8,y8,NJ,NK⟩:=Im;have I8':=I8.pinned (uz NK) (T.obj _ _ NJ);refine c9 (hg _ _ _ _ _ _ s8 σ6 H8 x u _ I8' r8 (step x H8 y8)) λ_ s9 Il=>?_;let⟨σ9,H9,I9,q9⟩:=Il;refine c9 (ht _ _ _ _ _ _ s9 σ9 H9 _ I9 q9) λok s10 zI=>?_;let⟨Jc,UY,CA⟩:=zI
   have again:∀ {σ7:L2.St} {H7:Hp} {ua:Shared},Inv (ja X N scope cl s3.heap.objs.size s3 H3 fp (X.pn++ao)) ([]++uy fp s8.heap) σ7 H7 ua->Nx σ7 H7->∃ m,m<n/\∃ i σ' H',Inv (ja X N scope cl s3.heap.objs.size s3 H3 fp (X.pn++ao)) [] σ' H' ua/\tn i ua.heap/\(∀ b∈fp,H' b=none)/\W i m σ' H':=λ{σ7 H7 ua} I7 n7=>by
    let⟨m',hm,w7⟩:=hN σ7 H7 n7;refine⟨m',hm,i+1,σ7,H7,I7.oE,T.keep _ _ _ NJ λb hb o e=>(I7.pin (b,o) (pD _ (pD _ (gY hb e)))).1,λb hb=>?_,w7⟩;let⟨o,e,d⟩:=T.obj _ _ NJ b hb;exact (I7.pin (b,o) (pD _ (pD _ (gY hb e)))).2.1
   cases ok with
   | false =>
    rw[if_neg gF]at CA;exact again UY CA
   | true =>
    rw[if_pos rfl]at CA;refine c9 (he _ _ _ _ _ _ s10 σ9 Jc _ UY CA) λv ua Fj=>?_;let⟨y,H11,I11,r11,xs,hx,hz,n11⟩:=Fj;refine c9 (bS _ ua σ9 H11 ↥s2.heap.objs.size [y] ↥s2.heap.objs.size [v] (λ_ H'=>Nx σ9 H') I11 rfl (.cons r11 .nil) ⟨_,xs,y,K,hx,hz,n11⟩) λ_ mZ Dy=>?_;let⟨_,H12,I12,_,WQ⟩:=Dy;exact again I12 WQ
 exact codeAny_compStart_list (loop _ rfl) (T.self _ _ _ _ _ st4 (loop _ rfl))
theorem OY{iter:Expr}{wi:TI}{g:TG}{tt:TT}{te:TE}(cs:CQ X N scope cl jx)(hc:X.calm=true)(hi:PI X tg iter wi)
  (hg:∀ C s₀ H₀ ex pn,PG (ja X N scope cl C s₀ H₀ ex pn) tg g) (ht:∀ C s₀ H₀ ex pn,Mn (ja X N scope cl C s₀ H₀ ex pn) jR tt) (he:∀ C s₀ H₀ ex pn,PE (ja X N scope cl C s₀ H₀ ex pn) j8 te)
  (hs:∀ x,foldedSetIterable iter X.env x=pure x:=by intro _;rfl):PE X (.ListComp j8 [⟨tg,iter,jR,0⟩] scope pos) (xH jx wi g tt te):=by
 intro ao s σ H Q I h;rw[eval_ListComp];refine CU (use:=none) cs hc hi hg ht he hs I h λs3 H3 fp acc σ6 H6 s7 I3 f3 I7 qn=>?_;let⟨m,hm,_⟩:=I7.loc;exact⟨m,hm,λh' SH=>⟨↥acc,H6,xG I3 (xF I3 f3 I7) I7.free SH,rfl,qn⟩⟩
theorem SI{iter:Expr}{OZ:Pos}{wi:TI}{g:TG}{tt:TT}{te:TE}{i:Nat}{x:Str}(cs:CQ X N scope cl jx)(hc:X.calm=true)(hN:X.N.Nodup)(hix:X.N[i]?=⇑x)(hx:X.env.scope.names.lookup x=⇑.local)(hi:PI X tg iter wi)
  (hg:∀ C s₀ H₀ ex pn,PG (ja X N scope cl C s₀ H₀ ex pn) tg g) (ht:∀ C s₀ H₀ ex pn,Mn (ja X N scope cl C s₀ H₀ ex pn) jR tt) (he:∀ C s₀ H₀ ex pn,PE (ja X N scope cl C s₀ H₀ ex pn) j8 te)
  (hsw:swapsWith (.ListComp j8 [⟨tg,iter,jR,0⟩] scope pos) (⇑(.Name x iU)) OZ.line X.env=pure true:=by rfl)
  (hs:∀ x,foldedSetIterable iter X.env x=pure x:=by intro _;rfl):PS X (.Assign [.Name x iU] (.ListComp j8 [⟨tg,iter,jR,0⟩] scope pos) OZ) (N6 (xH jx wi g tt te) (qU i)):=by
 intro ao s σ H D I h;rw[exec_Assign_Name_used _ _ _ _ hsw];refine wpAny_bind (wpAny_standAt (wpAny_bind ?_));show wpAny _ X.A (do let _ ← comprehension (.ListComp j8 [⟨tg,iter,jR,0⟩] scope pos) scope X.env _ (newList []) false (eval iter X.env) (⇑(assign (.Name x iU) X.env))) _ _ s;have h':xH jx wi g tt te σ H (λv H'=>qU i v σ H' D.nx):=h;refine wpAny_bind (c9 (CU (use:=⇑(assign (.Name x iU) X.env)) (Q':=λ_ s'=>∃ σ' H',Inv X ao σ' H' s'/\D.nx σ' H') cs hc hi hg ht he hs I h' λs3 H3 fp acc σ6 H6 s7 I3 f3 I7 qn=>?_) λ_ s' q=>?_)
 ·have I4:=xF I3 f3 I7;let⟨m,hm,_⟩:=I7.loc;refine wpAny_assign_Name (Ck I4 hN hix (.inl hx) (v:=↥acc) rfl (λs8 I8 ⟨a,SH,ha⟩=>?_) (.inr hx))
  have na:s3.heap.objs.size≠a:=by
   rcases ha with rfl|ha
   ·exact Nat.ne_of_gt I3.lt
   ·intro z;let⟨v,o,ho,_⟩:=I3.cell x a ha;exact absurd (Heap.lt_size ho) (by rw[z];exact Nat.lt_irrefl _)
  refine⟨m,hm.at' λo e=>SH.extBut _ o na e,λh' hs'=>⟨_,H6,xG I3 I8 I7.free hs',qn⟩⟩
 ·exact wpAny_pure (wpAny_pure q)
theorem fE{K:Frag}{a:Addr}{xs:List V}{g:TG}{tt:TT}{te:TE}{σ0:L2.St}{H:Hp}{Q:VK}(Pv:Nat->L2.St->Hp->Prop)(h0:Pv 0 σ0 H)(hl:∀ i σ H,i<=↑xs->Pv i σ H->bG K H a xs)
  (hs:∀ i x σ H,xs[i]?=⇑x->Pv i σ H->g x σ H fun σ2 H2=>tt σ2 H2 λb H3=>if b=true then te σ2 H3 λv H4=>∃ ys,H4 acc=⇑(.lst ys)/\↑ys<sizeLine/\Pv (i+1) σ2 (aN H4 acc (.lst (ys++[v]))) else Pv (i+1) σ2 H3)
  (hd:∀ σ H,Pv ↑xs σ H->Q ↥acc H):zu (Rg K a) acc g tt te σ0 H Q:=by
 refine⟨λi m σ H=>m=↑xs-i/\i<=↑xs/\Pv i σ H,⟨↑xs,by simp,Nat.zero_le _,h0⟩,?_⟩;rintro i m σ H ⟨rfl,hi,p⟩;have q:=hl i σ H hi p;by_cases qP:i<↑xs
 ·refine .inr ⟨⟨xs,xs[i],q,by simp[qP]⟩,Pv (i+1),fun σ' H' p'=>⟨↑xs-(i+1),by lia,rfl,qP,p'⟩,λx H' y=>?_⟩;let⟨e,y⟩:=y;subst e;exact hs i x σ _ (y xs q) p
 ·have e:i=↑xs:=by lia
  subst e;exact .inl ⟨⟨xs,q,fK _⟩,hd σ H p⟩
theorem nB{lo:Int}{k:Nat}{g:TG}{tt:TT}{te:TE}{σ0:L2.St}{H:Hp}{Q:VK}(Pv:Nat->L2.St->Hp->Prop)(h0:Pv 0 σ0 H)
  (hs:∀ i σ H,i<k->Pv i σ H->g (.int (lo+i)) σ H fun σ2 H2=>tt σ2 H2 λb H3=>if b=true then te σ2 H3 λv H4=>∃ ys,H4 acc=⇑(.lst ys)/\↑ys<sizeLine/\Pv (i+1) σ2 (aN H4 acc (.lst (ys++[v]))) else Pv (i+1) σ2 H3)
  (hd:∀ σ H,Pv k σ H->Q ↥acc H):zu (LR lo k) acc g tt te σ0 H Q:=by
 refine⟨λi m σ H=>m=k-i/\i<=k/\Pv i σ H,⟨k,by simp,Nat.zero_le _,h0⟩,?_⟩;rintro i m σ H ⟨rfl,hi,p⟩;by_cases qP:i<k
 ·refine .inr ⟨qP,Pv (i+1),fun σ' H' p'=>⟨k-(i+1),by lia,rfl,qP,p'⟩,λx H' y=>?_⟩;let⟨e,y⟩:=y;subst e y;exact hs i σ _ qP p
 ·have e:i=k:=by lia
  subst e;exact .inl ⟨Nat.le_refl _,hd σ H p⟩
end
section
variable {X:Cx} {N:List Str} {scope:Scope} {cl:List (Str × Addr)} {C:Addr} {s₀:Shared} {H₀:Hp} {ex:List Addr} {pn:List (Addr × Obj)}
theorem sR{es:List Expr}{k:Nat}{t:Wc}{n:Nat}(hc:X.calm=true)(h:Zu (ja X N scope cl C s₀ H₀ ex pn) es t)
  (hn:↑(assignEach es (ja X N scope cl C s₀ H₀ ex pn).env)=n:=by rfl) (Dz:(assignEach es (ja X N scope cl C s₀ H₀ ex pn).env).findIdx? (·.1)=none:=by rfl):PG (ja X N scope cl C s₀ H₀ ex pn) (.Tuple es k pos) (Wf X.K n t):=kQ (X:=ja X N scope cl C s₀ H₀ ex pn) hc h hn Dz
theorem F0{tl:TE}(hl:PE (ja X N scope cl C s₀ H₀ ex pn) l tl):PI (ja X N scope cl C s₀ H₀ ex pn) tg l (UO X.K tl):=cu hl
theorem DO:ZP (ja X N scope cl C s₀ H₀ ex pn) (ZR X.K):=aW
theorem SJ:uA (ja X N scope cl C s₀ H₀ ex pn) (compareOp .In) (rIn X.K false):=Cs
end
def DP{X:Cx}:jA X (.type "range") (λxs H Q=>∃ j:Int,xs=[.int j]/\∀ p,H p=none->Q ↥p (aN H p (.Fd 0 j))):=by
 intro ao s σ H xs us Q I r h;let⟨j,rfl,q⟩:=h;let⟨u1,rfl,⟨t,rfl⟩⟩:=r.one;refine call_range_1 ⟨↥s.heap.objs.size,_,I.laid (o:=.Fd 0 j) (λb o e=>Heap.get?_push_of_some _ e) (fK _) ⟨Q,Heap.get?_push_size _ rfl⟩,rfl,q _ (I.hok.fresh (fK _))⟩
theorem xJ{scope:Scope}{env:Env}(h:∀ p∈scope.names,p.2=.free->∃ c,env.cells.lookup p.1=⇑c) :
  ∃ cl,closureFor scope env=pure cl/\(∀ x c,cl.lookup x=⇑c->env.cells.lookup x=⇑c)/\(∀ p∈scope.names,p.2=.free->∃ c,cl.lookup p.1=⇑c):=by
 unfold closureFor
 have key:∀ (l:List (Str × NameKind)) (cs:List (Str × Addr)),(∀ p∈l,p.2=.free->∃ c,env.cells.lookup p.1=⇑c)->(∀ x c,cs.lookup x=⇑c->env.cells.lookup x=⇑c)->
   ∃ cl,(forIn l cs (λp r=>if (p.2 == NameKind.free)=true then do let c ← cellOf env p.1;pure (ForInStep.yield ((p.1,c)::r)) else pure (ForInStep.yield r)):Sem (List (Str × Addr)))=pure cl/\(∀ x c,cl.lookup x=⇑c->env.cells.lookup x=⇑c)/\(∀ p∈l,p.2=.free->∃ c,cl.lookup p.1=⇑c)/\(∀ x c,cs.lookup x=⇑c->∃ c,cl.lookup x=⇑c):=by
  intro l
  induction l with
  | nil=>intro cs _ Wu;exact⟨cs,rfl,Wu,(λp hp=>by cases hp),λx c e=>⟨c,e⟩⟩
  | cons p l ih =>
   intro cs hl Wu;rw[List.forIn_cons];by_cases hp:p.2=.free
   ·let⟨c,hc⟩:=hl p wO hp;have e1:(p.2 == NameKind.free)=true:=by rw[hp];rfl
    have e2:cellOf env p.1=pure c:=by
     unfold cellOf;rw[hc]
    rw[if_pos e1,e2];simp only[pure_bind]
    let⟨cl,h1,h2,h3,h4⟩:=ih ((p.1,c)::cs) (λq hq=>hl q (nI _ hq)) (λx d e=>by
     rw[List.lookup_cons]at e
     cases hx:x == p.1 with
     | true =>
      rw[hx]at e;cases e;rw[eq_of_beq hx];exact hc
     | false =>
      rw[hx]at e
      exact Wu x d e)
    refine⟨cl,h1,h2,λq hq hf=>?_,λx d e=>?_⟩
    ·rcases List.mem_cons.mp hq with rfl|hq
     ·exact h4 q.1 c (by rw[List.lookup_cons];simp)
     ·exact h3 q hq hf
    ·cases hx:x == p.1 with
     | true=>exact h4 x c (by rw[List.lookup_cons,hx])
     | false=>exact h4 x d (by rw[List.lookup_cons,hx];exact e)
   ·have e1:¬ (p.2 == NameKind.free)=true:=λz=>hp (eq_of_beq z);rw[if_neg e1];simp only[pure_bind];let⟨cl,h1,h2,h3,h4⟩:=ih cs (λq hq=>hl q (nI _ hq)) Wu;refine⟨cl,h1,h2,λq hq hf=>?_,h4⟩;rcases List.mem_cons.mp hq with rfl|hq
    ·exact absurd hf hp
    ·exact h3 q hq hf
 let⟨cl,h1,h2,h3,_⟩:=key scope.names [] h (λx c e=>by cases e);refine⟨cl,?_,h2,h3⟩;rw[← h1];simp only[bind_pure]
theorem mO{env:Env}:∀ {names:List (Str × NameKind)} {x:Str} {k:NameKind},names.lookup x=⇑k->
  (names.map λ(n,k)=>if (k == NameKind.free&&env.scope.kind == .function&&env.kindOf n == some .cell) then (n,NameKind.cell) else (n,k)).lookup x=⇑(if (k == NameKind.free&&env.scope.kind == .function&&env.kindOf x == some .cell) then NameKind.cell else k)
 | [],_,_,h=>by cases h
 | (n,k')::r,x,k,h=>by
  rw[jy];by_cases hx:(x == n)=true
  ·have e:x=n:=eq_of_beq hx;subst e;rw[List.lookup_cons,hx]at h;cases h;by_cases hc:(k' == NameKind.free&&env.scope.kind == .function&&env.kindOf x == some .cell)=true
   ·show List.lookup x ((if (k' == NameKind.free&&env.scope.kind == .function&&env.kindOf x == some .cell)=true then (x,NameKind.cell) else (x,k'))::_)=_;rw[if_pos hc,if_pos hc,List.lookup_cons,hx]
   ·show List.lookup x ((if (k' == NameKind.free&&env.scope.kind == .function&&env.kindOf x == some .cell)=true then (x,NameKind.cell) else (x,k'))::_)=_;rw[if_neg hc,if_neg hc,List.lookup_cons,hx]
  ·have hf:(x == n)=false:=by simpa using hx
   rw[List.lookup_cons,hf]at h;have ih:=mO (env:=env) h;show List.lookup x ((if (k' == NameKind.free&&env.scope.kind == .function&&env.kindOf n == some .cell)=true then (n,NameKind.cell) else (n,k'))::_)=_;by_cases hc:(k' == NameKind.free&&env.scope.kind == .function&&env.kindOf n == some .cell)=true
   ·rw[if_pos hc,List.lookup_cons,hf];exact ih
   ·rw[if_neg hc,List.lookup_cons,hf];exact ih
theorem lH{env:Env}:∀ {names:List (Str × NameKind)} {x:Str},names.lookup x=none->
  (names.map λ(n,k)=>if (k == NameKind.free&&env.scope.kind == .function&&env.kindOf n == some .cell) then (n,NameKind.cell) else (n,k)).lookup x=none
 | [],_,_=>rfl
 | (n,k')::r,x,h=>by
  rw[jy]
  have hf:(x == n)=false:=by
   cases hx:x == n with
   | false=>rfl
   | true=>rw[List.lookup_cons,hx]at h;cases h
  rw[List.lookup_cons,hf]at h;have ih:=lH (env:=env) h;show List.lookup x ((if (k' == NameKind.free&&env.scope.kind == .function&&env.kindOf n == some .cell)=true then (n,NameKind.cell) else (n,k'))::_)=_;by_cases hc:(k' == NameKind.free&&env.scope.kind == .function&&env.kindOf n == some .cell)=true
  ·rw[if_pos hc,List.lookup_cons,hf];exact ih
  ·rw[if_neg hc,List.lookup_cons,hf];exact ih
structure CV(X:Cx)(N:List Str)(scope:Scope)(jx:List (Option Nat)):Prop where
 kind:scope.kind=.function
 cell:∀ x∈scope.names,x.2≠.cell
 names:∀ x∈scope.names,x.2=.local->scope.names.lookup x.1=⇑.local
 xk:X.env.scope.kind=.function
 fr:∀ x∈scope.names,x.2=.free->X.env.scope.names.lookup x.1=⇑.cell
 len:↑jx=↑N
 free:∀ (i j:Nat) (x:Str),jx[i]?=⇑(⇑j)->N[i]?=⇑x->X.N[j]?=⇑x/\scope.names.lookup x=⇑.free
def O0(NX N:List Str)(scope:Scope)(jx:List (Option Nat)):Bool:=(jx.zip N).all λp=>match p.1 with
 | none=>true
 | some j=>decide (NX[j]?=⇑p.2)&&decide (scope.names.lookup p.2=⇑.free)
theorem jI{X:Cx}{N NX:List Str}{scope sc:Scope}{jx:List (Option Nat)}(e1:X.env.scope=sc)(e2:X.N=NX)(k:scope.kind=.function)(h1:∀ x∈scope.names,x.2≠.cell)(h2:∀ x∈scope.names,x.2=.local->scope.names.lookup x.1=⇑.local)
  (h3:sc.kind=.function) (h4:∀ x∈scope.names,x.2=.free->sc.names.lookup x.1=⇑.cell) (h5:↑jx=↑N) (h6:O0 NX N scope jx=true):CV X N scope jx:=by
 refine⟨k,h1,h2,by rw[e1];exact h3,by rw[e1];exact h4,h5,λi j x a b=>?_⟩;rw[e2];unfold O0 at h6;rw[List.all_eq_true]at h6;have z:=h6 (⇑j,x) (nJ (i:=i) (by rw[List.getElem?_zip_eq_some];exact⟨a,b⟩));simp only[Bool.and_eq_true,decide_eq_true_eq]at z;exact z
section
variable {X:Cx} {N:List Str} {scope:Scope} {jx:List (Option Nat)}
def CV.toF{σ:L2.St}{H:Hp}{s:Shared}(cg:CV X N scope jx)(I:Inv X ao σ H s):∃ cl,CQ X N scope cl jx:=by
 let⟨cl,h1,h2,h3⟩:=xJ (scope:=scope) (env:=X.env) λp hp hf=>I.ok.has p.1 (.inl (cg.fr p hp hf))
 have sO:∀ x,scope.names.lookup x=⇑.free->(relabel scope X.env).names.lookup x=⇑.cell:=λx hx=>by
  have z:=mO (env:=X.env) hx
  have c:(NameKind.free == NameKind.free&&X.env.scope.kind == .function&&X.env.kindOf x == some .cell)=true:=by
   have q:X.env.kindOf x=⇑.cell:=cg.fr (x,.free) (PySem.mem_of_lookup hx) rfl;rw[cg.xk,q];rfl
  rw[if_pos c]at z;exact z
 refine⟨cl,cg.kind,cg.cell,cg.names,h1,h2,λx hx=>?_,cg.len,λi j x a b=>?_⟩
 ·cases e:scope.names.lookup x with
  | none =>
   have z:(relabel scope X.env).names.lookup x=none:=lH (env:=X.env) e;rw[z]at hx
   rcases hx with q|q <;> cases q
  | some k =>
   by_cases hk:k=.free
   ·subst hk;exact h3 (x,.free) (PySem.mem_of_lookup e) rfl
   ·have z:(relabel scope X.env).names.lookup x=⇑(if (k == NameKind.free&&X.env.scope.kind == .function&&X.env.kindOf x == some .cell) then NameKind.cell else k):=mO (env:=X.env) e
    have c:(k == NameKind.free)=false:=by
     cases q:k == NameKind.free with
     | false=>rfl
     | true=>exact absurd (eq_of_beq q) hk
    rw[c]at z;simp only[Bool.false_and,Bool.false_eq_true,if_false]at z;rw[z]at hx;rcases hx with q|q
    ·cases q;exact absurd rfl (cg.cell (x,.cell) (PySem.mem_of_lookup e))
    ·cases q;exact absurd rfl hk
 ·let⟨f1,f2⟩:=cg.free i j x a b;exact⟨f1,cg.fr (x,.free) (PySem.mem_of_lookup f2) rfl,sO x f2⟩
theorem gI{iter:Expr}{wi:TI}{g:TG}{tt:TT}{te:TE}(cg:CV X N scope jx)(hc:X.calm=true)(hi:PI X tg iter wi)
  (hg:∀ cl C s₀ H₀ ex pn,PG (ja X N scope cl C s₀ H₀ ex pn) tg g) (ht:∀ cl C s₀ H₀ ex pn,Mn (ja X N scope cl C s₀ H₀ ex pn) jR tt) (he:∀ cl C s₀ H₀ ex pn,PE (ja X N scope cl C s₀ H₀ ex pn) j8 te)
  (hs:∀ x,foldedSetIterable iter X.env x=pure x:=by intro _;rfl):PE X (.ListComp j8 [⟨tg,iter,jR,0⟩] scope pos) (xH jx wi g tt te):=by
 intro ao s σ H Q I h;let⟨cl,cs⟩:=cg.toF I;exact OY cs hc hi (hg cl) (ht cl) (he cl) hs ao s σ H Q I h
theorem zw{iter:Expr}{OZ:Pos}{wi:TI}{g:TG}{tt:TT}{te:TE}{i:Nat}{x:Str}(cg:CV X N scope jx)(hc:X.calm=true)(hN:X.N.Nodup)(hix:X.N[i]?=⇑x)(hx:X.env.scope.names.lookup x=⇑.local)(hi:PI X tg iter wi)
  (hg:∀ cl C s₀ H₀ ex pn,PG (ja X N scope cl C s₀ H₀ ex pn) tg g) (ht:∀ cl C s₀ H₀ ex pn,Mn (ja X N scope cl C s₀ H₀ ex pn) jR tt) (he:∀ cl C s₀ H₀ ex pn,PE (ja X N scope cl C s₀ H₀ ex pn) j8 te)
  (hsw:swapsWith (.ListComp j8 [⟨tg,iter,jR,0⟩] scope pos) (⇑(.Name x iU)) OZ.line X.env=pure true:=by rfl)
  (hs:∀ x,foldedSetIterable iter X.env x=pure x:=by intro _;rfl):PS X (.Assign [.Name x iU] (.ListComp j8 [⟨tg,iter,jR,0⟩] scope pos) OZ) (N6 (xH jx wi g tt te) (qU i)):=by
 intro ao s σ H D I h;let⟨cl,cs⟩:=cg.toF I;exact SI cs hc hN hix hx hi (hg cl) (ht cl) (he cl) hsw hs ao s σ H D I h
end
end cX
namespace cX
open Spec Rows L2
section
variable {X:Cx} {N:List Str} {scope:Scope} {cl:List (Str × Addr)} {jx:List (Option Nat)}
def F1(J:It)(acc:Addr)(g:TG)(tt:TT)(Ja:TI)(g2:TG)(Jb:TT)(te:TE)(σ0:L2.St)(H:Hp)(Q:VK):Prop :=
 ∃ W:Nat->Nat->L2.St->Hp->Prop,(∃ m,W 0 m σ0 H)/\∀ i m σ H,W i m σ H->
  (J.stop i H/\Q ↥acc H)\/(J.go i H/\∃ Nx:L2.St->Hp->Prop,(∀ σ' H',Nx σ' H'->∃ m',m'<m/\W (i+1) m' σ' H')/\∀ x H',J.N7 i H x H'->g x σ H' fun σ2 H2=>tt σ2 H2 λb H3 =>
   if b=true then I0 Ja acc g2 Jb te σ2 H3 Nx else Nx σ2 H3)
def Le(jx:List (Option Nat))(wi:TI)(g:TG)(tt:TT)(Ja:TI)(g2:TG)(Jb:TT)(te:TE):TE:=fun σ H Q=>wi σ H λJ H1=>∀ acc,H1 acc=none->F1 J acc g tt Ja g2 Jb te (uW jx σ) (aN H1 acc (.lst [])) Q
theorem Jf{iter:Expr}{wi Ja:TI}{g g2:TG}{tt Jb:TT}{te:TE}(cs:CQ X N scope cl jx)(hc:X.calm=true)(hi:PI X tg iter wi)
  (hg:∀ C s₀ H₀ ex pn,PG (ja X N scope cl C s₀ H₀ ex pn) tg g) (ht:∀ C s₀ H₀ ex pn,Mn (ja X N scope cl C s₀ H₀ ex pn) jR tt) (hi2:∀ C s₀ H₀ ex pn,PI (ja X N scope cl C s₀ H₀ ex pn) qQ dO Ja) (hg2:∀ C s₀ H₀ ex pn,PG (ja X N scope cl C s₀ H₀ ex pn) qQ g2) (NN:∀ C s₀ H₀ ex pn,Mn (ja X N scope cl C s₀ H₀ ex pn) ji Jb) (he:∀ C s₀ H₀ ex pn,PE (ja X N scope cl C s₀ H₀ ex pn) j8 te)
  (hs:∀ x,foldedSetIterable iter X.env x=pure x) (HU:∀ (env:Env) x,foldedSetIterable dO env x=pure x) {use:Option (Value->Sem Unit)} {Q':Value->Shared->Prop} {Q:VK} {ao:List (Addr × Obj)} {s:Shared} {σ:L2.St} {H:Hp} (I:Inv X ao σ H s) (h:Le jx wi g tt Ja g2 Jb te σ H Q)
  (iS:∀ (s3:Shared) (H3:Hp) (fp:List Addr) (acc:Addr) (σ6:L2.St) (H6:Hp) (s7:Shared),Inv X ao σ H3 s3->(∀ b∈fp,pH X ao H3 b)->Inv (ja X N scope cl s3.heap.objs.size s3 H3 fp (X.pn++ao)) [] σ6 H6 s7->Q ↥acc H6->
   compPost (model X.prog X.w) X.A X.xe use Q' ↥acc s3.heap.objs.size (.ok .next) s7) :
  wpAny (model X.prog X.w) X.A (comprehension (.ListComp j8 [⟨tg,iter,jR,0⟩,⟨qQ,dO,ji,0⟩] scope pos) scope X.env iU (newList []) false (eval iter X.env) use) Q' X.xe s:=by
 refine wpAny_comprehension_free (use:=use) rfl hs cs.clos cs.kind cs.names (c9 (hi ao s σ H _ I h) λv s1 h1=>c9 h1 λZx s2 h2=>?_);let⟨it,fp,tn,J,H2,e,I2,T,st2,f2,q⟩:=h2;subst e;refine wpAny_newObj_type (hd:=by size_fits) ?_;have cP:H2 s2.heap.objs.size=none:=I2.hok.fresh (fK _);have I3:Inv X ao σ (aN H2 s2.heap.objs.size (.lst [])) { s2 with heap:=s2.heap.push { cls:=.type "list",data:=.seq ([]:List Value).toArray },toks:=s2.toks }:=I2.RT (ys:=[]) .nil (Nat.zero_le _)
 have ftn:∀ b∈fp,b<s2.heap.objs.size:=λb hb=>by
  let⟨o,ho,_⟩:=T.obj _ _ st2 b hb;exact Heap.lt_size ho
 have f3:∀ b∈fp,pH X ao (aN H2 s2.heap.objs.size (.lst [])) b:=λb hb=>⟨by rw[aL (jv (ftn b hb))];exact (f2 b hb).1,(f2 b hb).2⟩;have k3:∀ b o,s2.heap.get? b=⇑o->(s2.heap.push { cls:=.type "list",data:=.seq ([]:List Value).toArray }).get? b=⇑o:=λb o e=>Heap.get?_push_of_some _ e;have q3:=q _ cP;generalize hs3:({ s2 with heap:=s2.heap.push { cls:=.type "list",data:=.seq ([]:List Value).toArray },toks:=s2.toks }:Shared)=s3 at I3;generalize hH3:aN H2 s2.heap.objs.size (.lst [])=H3 at I3 f3 q3;have hh3:s3.heap=s2.heap.push { cls:=.type "list",data:=.seq ([]:List Value).toArray }:=by rw[← hs3]
 have Ld:∀ b∈fp,b<s3.heap.objs.size:=λb hb=>by rw[hh3,Heap.size_push];exact Nat.lt_succ_of_lt (ftn b hb)
 have st3:tn 0 s3.heap:=T.keep _ _ _ st2 λb _ o e=>by rw[hh3];exact k3 b o e
 show wpAny _ _ _ _ _ s3;refine wpAny_newFunctionEnv cs.cell (λy hy=>by simp at hy) (λh₁ NI SH=>?_) cs.kind;have kh:∀ b o,s3.heap.get? b=⇑o->h₁.get? b=⇑o:=λb o e=>SH.extBut _ _ (jv (Heap.lt_size e)) (Heap.get?_push_of_some _ e);have J0:Inv (ja X N scope cl s3.heap.objs.size s3 H3 fp (X.pn++ao)) [] (uW jx σ) H3 { s3 with heap:=h₁,toks:=s3.toks+↑([]:List (Str × Value)) }:=yE cs I3 f3 Ld NI kh;have st4:tn 0 h₁:=T.keep _ _ _ st3 λb _ o e=>kh b o e;let⟨W,⟨m0,w0⟩,pG⟩:=q3
 have uz:∀ {H':Hp},(∀ b∈fp,H' b=none)->∀ b∈fp,pH (ja X N scope cl s3.heap.objs.size s3 H3 fp (X.pn++ao)) [] H' b:=λhn b hb=>by
  refine⟨hn b hb,jv (Ld b hb),λz=>?_,.inl hb,λx c e=>(f3 b hb).2.2.2.2.1 x c (cs.sub x c e),λp hp=>?_⟩
  ·rcases List.mem_cons.mp (I3.wR b z) with e|e
   ·exact (f3 b hb).2.1 e
   ·exact (f3 b hb).2.2.1 e
  ·have NL:p∈X.pn++ao:=by
    have z:p∈(X.pn++ao)++[]:=hp;simpa using z
   exact (f3 b hb).2.2.2.2.2 p NL
 have loop:∀ s5:Shared,s5={ s3 with heap:=h₁,toks:=s3.toks+↑([]:List (Str × Value)) }->codeAny (model X.prog X.w) X.A (.compLoop (.ListComp j8 [⟨tg,iter,jR,0⟩,⟨qQ,dO,ji,0⟩] scope pos) 0 ↥it ↥s2.heap.objs.size (ja X N scope cl s3.heap.objs.size s3 H3 fp (X.pn++ao)).env)
   (compPost (model X.prog X.w) X.A X.xe use Q' ↥s2.heap.objs.size s3.heap.objs.size) s5:=by
  rintro s5 rfl;refine Sq (λn s'=>∃ i σ' H',Inv (ja X N scope cl s3.heap.objs.size s3 H3 fp (X.pn++ao)) [] σ' H' s'/\tn i s'.heap/\(∀ b∈fp,H' b=none)/\W i n σ' H') (HU _) ?_ m0 ⟨0,_,H3,J0,st4,λb hb=>(f3 b hb).1,w0⟩;rintro n s6 ⟨i,σ6,H6,I6,UX,Ri,w6⟩;rcases pG i n σ6 H6 w6 with ⟨stop,qn⟩|⟨go,Nx,hN,step⟩
  ·refine c9 (T.done (ja X N scope cl s3.heap.objs.size s3 H3 fp (X.pn++ao)) rfl rfl rfl hc i [] s6 σ6 H6 _ I6 (uz Ri) UX stop) λr s7 Ij=>?_;let⟨hr,I7⟩:=Ij;subst hr;exact iS s3 H3 fp _ σ6 H6 s7 I3 f3 I7 qn
  ·refine c9 (T.item (ja X N scope cl s3.heap.objs.size s3 H3 fp (X.pn++ao)) rfl rfl rfl hc i [] s6 σ6 H6 _ I6 (uz Ri) UX go) λr s7 Ik=>?_;let⟨u,hr,h7⟩:=Ik;subst hr;refine c9 h7 λ_ s8 Im=>?_;let⟨x,H8,I8,r8,y8,NJ,NK⟩:=Im;have I8':=I8.pinned (uz NK) (T.obj _ _ NJ);refine c9 (hg _ _ _ _ _ _ s8 σ6 H8 x u _ I8' r8 (step x H8 y8)) λ_ s9 Il=>?_;let⟨σ9,H9,I9,q9⟩:=Il;refine c9 (ht _ _ _ _ _ _ s9 σ9 H9 _ I9 q9) λok s10 zI=>?_;let⟨Jc,UY,CA⟩:=zI
   have again:∀ {σ7:L2.St} {H7:Hp} {ua:Shared},Inv (ja X N scope cl s3.heap.objs.size s3 H3 fp (X.pn++ao)) ([]++uy fp s8.heap) σ7 H7 ua->Nx σ7 H7->∃ m,m<n/\∃ i σ' H',Inv (ja X N scope cl s3.heap.objs.size s3 H3 fp (X.pn++ao)) [] σ' H' ua/\tn i ua.heap/\(∀ b∈fp,H' b=none)/\W i m σ' H':=λ{σ7 H7 ua} I7 n7=>by
    let⟨m',hm,w7⟩:=hN σ7 H7 n7;refine⟨m',hm,i+1,σ7,H7,I7.oE,T.keep _ _ _ NJ λb hb o e=>(I7.pin (b,o) (pD _ (pD _ (gY hb e)))).1,λb hb=>?_,w7⟩;let⟨o,e,d⟩:=T.obj _ _ NJ b hb;exact (I7.pin (b,o) (pD _ (pD _ (gY hb e)))).2.1
   cases ok with
   | false =>
    rw[if_neg gF]at CA;exact again UY CA
   | true =>
    rw[if_pos rfl]at CA;refine c9 (Mt (Y:=ja X N scope cl s3.heap.objs.size s3 H3 fp (X.pn++ao)) hc rfl (hi2 _ _ _ _ _) (hg2 _ _ _ _ _) (NN _ _ _ _ _) (he _ _ _ _ _) UY CA) λx ua h11=>c9 h11 λit2 mZ h12=>codeAny_mono h12 λr Bx ⟨hr,σ',H',I13,n13⟩=>⟨hr,again I13 n13⟩
 exact codeAny_compStart_list (loop _ rfl) (T.self _ _ _ _ _ st4 (loop _ rfl))
theorem xK{iter:Expr}{pos:Pos}{wi Ja:TI}{g g2:TG}{tt Jb:TT}{te:TE}(cg:CV X N scope jx)(hc:X.calm=true)(hi:PI X tg iter wi)
  (hg:∀ cl C s₀ H₀ ex pn,PG (ja X N scope cl C s₀ H₀ ex pn) tg g) (ht:∀ cl C s₀ H₀ ex pn,Mn (ja X N scope cl C s₀ H₀ ex pn) jR tt)
  (hi2:∀ cl C s₀ H₀ ex pn,PI (ja X N scope cl C s₀ H₀ ex pn) qQ dO Ja) (hg2:∀ cl C s₀ H₀ ex pn,PG (ja X N scope cl C s₀ H₀ ex pn) qQ g2) (NN:∀ cl C s₀ H₀ ex pn,Mn (ja X N scope cl C s₀ H₀ ex pn) ji Jb) (he:∀ cl C s₀ H₀ ex pn,PE (ja X N scope cl C s₀ H₀ ex pn) j8 te)
  (hs:∀ x,foldedSetIterable iter X.env x=pure x:=by intro _;rfl) (HU:∀ (env:Env) x,foldedSetIterable dO env x=pure x:=by intro _ _;rfl) :
  PE X (.ListComp j8 [⟨tg,iter,jR,0⟩,⟨qQ,dO,ji,0⟩] scope pos) (Le jx wi g tt Ja g2 Jb te):=by
 intro ao s σ H Q I h;let⟨cl,cs⟩:=cg.toF I;rw[eval_ListComp];refine Jf (use:=none) cs hc hi (hg cl) (ht cl) (hi2 cl) (hg2 cl) (NN cl) (he cl) hs HU I h λs3 H3 fp acc σ6 H6 s7 I3 f3 I7 qn=>?_;let⟨m,hm,_⟩:=I7.loc;exact⟨m,hm,λh' SH=>⟨↥acc,H6,xG I3 (xF I3 f3 I7) I7.free SH,rfl,qn⟩⟩
theorem rE{K:Frag}{a:Addr}{xs:List V}{g:TG}{tt:TT}{Ja:TI}{g2:TG}{Jb:TT}{te:TE}{σ0:L2.St}{H:Hp}{Q:VK}(Pv:Nat->L2.St->Hp->Prop)(h0:Pv 0 σ0 H)(hl:∀ i σ H,i<=↑xs->Pv i σ H->bG K H a xs)
  (hs:∀ i x σ H,xs[i]?=⇑x->Pv i σ H->g x σ H fun σ2 H2=>tt σ2 H2 λb H3=>if b=true then I0 Ja acc g2 Jb te σ2 H3 (Pv (i+1)) else Pv (i+1) σ2 H3)
  (hd:∀ σ H,Pv ↑xs σ H->Q ↥acc H):F1 (Rg K a) acc g tt Ja g2 Jb te σ0 H Q:=by
 refine⟨λi m σ H=>m=↑xs-i/\i<=↑xs/\Pv i σ H,⟨↑xs,by simp,Nat.zero_le _,h0⟩,?_⟩;rintro i m σ H ⟨rfl,hi,p⟩;have q:=hl i σ H hi p;by_cases qP:i<↑xs
 ·refine .inr ⟨⟨xs,xs[i],q,by simp[qP]⟩,Pv (i+1),fun σ' H' p'=>⟨↑xs-(i+1),by lia,rfl,qP,p'⟩,λx H' y=>?_⟩;let⟨e,y⟩:=y;subst e;exact hs i x σ _ (y xs q) p
 ·have e:i=↑xs:=by lia
  subst e;exact .inl ⟨⟨xs,q,fK _⟩,hd σ H p⟩
theorem Ao{K:Frag}{a:Addr}{xs:List V}{g:TG}{tt:TT}{te:TE}{σ:L2.St}{H:Hp}{Nx:L2.St->Hp->Prop}(Pv:Nat->L2.St->Hp->Prop)(h0:Pv 0 σ H)(hl:∀ i σ H,i<=↑xs->Pv i σ H->bG K H a xs)
  (hs:∀ i x σ H,xs[i]?=⇑x->Pv i σ H->g x σ H fun σ2 H2=>tt σ2 H2 λb H3=>if b=true then te σ2 H3 λv H4=>∃ ys,H4 acc=⇑(.lst ys)/\↑ys<sizeLine/\Pv (i+1) σ2 (aN H4 acc (.lst (ys++[v]))) else Pv (i+1) σ2 H3)
  (hd:∀ σ H,Pv ↑xs σ H->Nx σ H):∃ W:Nat->Nat->L2.St->Hp->Prop,(∃ m,W 0 m σ H)/\∀ i m σ H,W i m σ H->
  ((Rg K a).stop i H/\Nx σ H)\/((Rg K a).go i H/\∃ N2:L2.St->Hp->Prop,(∀ σ' H',N2 σ' H'->∃ m',m'<m/\W (i+1) m' σ' H')/\∀ x H',(Rg K a).N7 i H x H'->g x σ H' fun σ2 H2=>tt σ2 H2 λb H3 =>
   if b=true then te σ2 H3 λv H4=>∃ xs,H4 acc=⇑(.lst xs)/\↑xs<sizeLine/\N2 σ2 (aN H4 acc (.lst (xs++[v]))) else N2 σ2 H3):=by
 refine⟨λi m σ H=>m=↑xs-i/\i<=↑xs/\Pv i σ H,⟨↑xs,by simp,Nat.zero_le _,h0⟩,?_⟩;rintro i m σ H ⟨rfl,hi,p⟩;have q:=hl i σ H hi p;by_cases qP:i<↑xs
 ·refine .inr ⟨⟨xs,xs[i],q,by simp[qP]⟩,Pv (i+1),fun σ' H' p'=>⟨↑xs-(i+1),by lia,rfl,qP,p'⟩,λx H' y=>?_⟩;let⟨e,y⟩:=y;subst e;exact hs i x σ _ (y xs q) p
 ·have e:i=↑xs:=by lia
  subst e;exact .inl ⟨⟨xs,q,fK _⟩,hd σ H p⟩
end
end cX
namespace cX
open Spec Rows L2
open AutoSeq1 (wpAny_loadPart')
section
variable {prog:Program} {w:World} {A:Around} {E:Value->Shared->Prop} {s:Shared} {κ:Type} [DecidableEq κ] {knd:KeyKind prog w κ}
def MA{d:Addr}{Q:Bool->Shared->Prop}(hT:s.TypeIs ↥d "dict")(h:Q false s):wpAny (model prog w) A (Builtin.List.listLengthHint ↥d) Q E s:=by
 unfold Builtin.List.listLengthHint;refine wpAny_bind (wpAny_specialOf hT F.slot_dict_len.lookup ?_);generalize hid:("dict.__len__":String)=id0
 wp_delta
 rw[show splitId id0=⇑("dict","__len__") by subst hid;decide +kernel];subst hid;refine wpAny_bind (wpAny_isInstance (T:="dict") (b:=true) hT (by rw[isSubtype_type];kernel_rfl) ?_);refine wpAny_ite_split (λq=>absurd q (by decide)) λ_=>?_;refine wpAny_ite_split (λ_=>?_) λq=>absurd nofun q;exact wpAny_bind (wpAny_typeOf hT (wpAny_pure h))
theorem F2{R:Result->Shared->Prop}{d:Addr}{kvs:List (κ × Value)}{ep:Nat}(hh:A.handled=none)(hs:(d == sysModules)=false)(hd:s.heap.DictAt knd d kvs ep)(dJ:↑kvs<=sizeLine)(S:Addr)(res:Value)(c₀:Nat)(hS:s.heap.get? S=some { cls:=.type "list",data:=.seq #[] c₀ })
  (hR:∀ h' tk qK c',(∀ b o,b≠S->s.heap.get? b=⇑o->h'.get? b=⇑o)->h'.get? S=some { cls:=.type "list",dict:=none,data:=.seq qK c',slots:=#[] }->
   ItemsOf (λi v=>∃ k x,kvs[i]?=⇑(k,x)/\knd.is k v=true) qK ↑kvs->R (.ok (.ret res)) { s with heap:=h',toks:=tk }) :
  wpAny (model prog w) A.in1 (Builtin.List.listExtendWith ↥S ↥d res)
   (λiS s'=>match iS with|.done f=>R (.ok f) s'|.again c'=>c'.quiet=true/\codeAny (model prog w) A c' R s') (λe s'=>R (.error e) s') s:=by
 have hT:s.TypeIs ↥d "dict":=by
  let⟨o,es,ho,hx,_⟩:=hd;exact⟨o,ho,hx.1⟩
 have hSd:S≠d:=λe=>by
  let⟨o,es,ho,hx,hda,_⟩:=hd;rw[← e,hS]at ho;cases ho;cases hda
 have aeV:S<s.heap.objs.size:=Heap.lt_size hS
 have aeW:d<s.heap.objs.size:=by
  let⟨o,es,ho,_⟩:=hd;exact Heap.lt_size ho
 have hSI:S≠s.heap.objs.size:=jv aeV;have hdI:d≠s.heap.objs.size:=jv aeW;have W:=(Walks.dictKeys (prog:=prog) (w:=w) (A:=A.in1) (knd:=knd) hh s.heap.objs.size d hdI kvs ep).toS;unfold Builtin.List.listExtendWith;refine wpAny_bind (wpAny_typeOf hT ?_);have h1:Builtin.List.listSameRef ↥S ↥d=false:=by simp[Builtin.List.listSameRef,hSd]
 have h2:(Value.type "dict" == Value.type "list")=false:=by decide
 have h3:(Value.type "dict" == Value.type "tuple")=false:=by decide
 simp only[h1,h2,h3,Bool.or_false,Bool.false_eq_true,if_false];refine wpAny_bind (wpAny_pyIter_dict hs hd ?_);have uU:(s.heap.push { cls:=.type "dict_keyiterator",data:=.fields #[↥d,.int 0 0,.int ↑kvs 0,.int ep 0] }).IsKeyIter s.heap.objs.size d 0 ↑kvs ep:=⟨_,Heap.get?_push_size _ rfl,K⟩;have jw:∀ b o,s.heap.get? b=⇑o->(s.heap.push { cls:=.type "dict_keyiterator",data:=.fields #[↥d,.int 0 0,.int ↑kvs 0,.int ep 0] }).get? b=⇑o:=λb o e=>Heap.get?_push_of_some _ e;generalize s.heap.push { cls:=.type "dict_keyiterator",data:=.fields #[↥d,.int 0 0,.int ↑kvs 0,.int ep 0] }=g1 at uU jw
 have hT1:({ s with heap:=g1 }:Shared).TypeIs ↥d "dict":=by
  let⟨o,ho,hc⟩:=hT;exact⟨o,jw _ _ ho,hc⟩
 refine wpAny_bind (wpAny_holding (MA hT1 ?_));refine wpAny_ite_split (λ_=>?_) λq=>absurd nofun q;refine wpAny_bind (wpAny_rule (wpAny_bind ?_));show wpAny _ A.in1 (updateSeq S (λz=>z.push .none) >>= λ_=>updateSeq S λz=>z.pop) _ _ _;have g1S:=jw _ _ hS;refine wpAny_bind (wpAny_updateSeq g1S rfl ?_);have g2S:=Heap.get?_update_self (Obj.mapSeq λz=>z.push Value.none) g1S rfl;refine wpAny_updateSeq (hz:=by seq_fits) g2S rfl ?_;have g3S:=Heap.get?_update_self (Obj.mapSeq λz=>z.pop) g2S rfl
 have NO:∀ b o,b≠S->g1.get? b=⇑o->((g1.update S (Obj.mapSeq λz=>z.push Value.none)).update S (Obj.mapSeq λz=>z.pop)).get? b=⇑o:=λb o nb e =>
  (Heap.get?_update_other _ _ nb.symm).trans ((Heap.get?_update_other _ _ nb.symm).trans e)
 refine wpAny_pure ⟨plainId_quiet F.plain_extend_loop _,codeAny_extend_loopS W dJ S (λhm=>?_) res ↑kvs 0 _ #[] _ rfl (Nat.zero_le _) ⟨uU.at λo e=>NO _ o hSI.symm e,(hd.at' λo e=>NO _ o hSd.symm (jw _ o e))⟩ g3S (ItemsOf.nil _) λs' qK c' hm hS' cP=>?_⟩
 ·rcases List.mem_cons.mp hm with e|e
  ·exact hSI e
  ·exact hSd (List.mem_singleton.mp e)
 ·rw[Moved.eq_with hm];refine hR s'.heap s'.toks qK c' (λb o nb e=>hm.heap b o (λq=>?_) (NO b o nb (jw b o e))) hS' cP;rcases List.mem_cons.mp q with z|z
  ·exact nb z
  ·exact absurd (Heap.lt_size e) (by rw[List.mem_singleton.mp z];exact Nat.lt_irrefl _)
theorem Aq{Q:Value->Shared->Prop}{d:Addr}{kvs:List (κ × Value)}{ep:Nat}(hh:A.handled=none)(hs:(d == sysModules)=false)(hd:s.heap.DictAt knd d kvs ep)(dJ:↑kvs<=sizeLine)
  (hQ:∀ h' tk qK c',(∀ b o,s.heap.get? b=⇑o->h'.get? b=⇑o)->h'.get? s.heap.objs.size=some { cls:=.type "list",dict:=none,data:=.seq qK c',slots:=#[] }->
   ItemsOf (λi v=>∃ k x,kvs[i]?=⇑(k,x)/\knd.is k v=true) qK ↑kvs->Q ↥s.heap.objs.size { s with heap:=h',toks:=tk }) :
  wpAny (model prog w) A (call (.type "list") [↥d]) Q E s:=by
 refine callType_codes (Q₁:=λu s1=>u=↥s.heap.objs.size/\s1={ s with heap:=s.heap.push { cls:=.type "list",data:=.seq #[] } }) F.called_list (F.typeCall_list_1 _) F.entry_list_init (code_list_new _ ⟨K⟩) λu s1 e1=>?_;let⟨rfl,rfl⟩:=e1;have hS:(s.heap.push { cls:=.type "list",data:=.seq #[] }).get? s.heap.objs.size=some { cls:=.type "list",data:=.seq #[] }:=Heap.get?_push_size _ rfl;have F3:(s.heap.push { cls:=.type "list",data:=.seq #[] }).DictAt knd d kvs ep:=hd.at' λo e=>Heap.get?_push_of_some _ e
 have U6:d≠s.heap.objs.size:=by
  let⟨o,es,ho,_⟩:=hd;exact jv (Heap.lt_size ho)
 exists ⟨_,hS,rfl⟩,F.args_list_init_2 _ _;show wpAny _ _ (do let old ← Builtin.List.listItems ↥s.heap.objs.size;Builtin.List.listUpdate ↥s.heap.objs.size (λ_=>#[]);letGo old.toList.reverse;Builtin.List.listExtendWith ↥s.heap.objs.size ↥d .none) _ _ _;refine wpAny_bind ?_;unfold Builtin.List.listItems;refine wpAny_bind (wpAny_seqItems hS rfl (wpAny_pure ?_));show wpAny _ _ (updateSeq s.heap.objs.size (λ_=>#[]) >>= λ_=>letGo (#[]:Array Value).toList.reverse >>= λ_=>Builtin.List.listExtendWith ↥s.heap.objs.size ↥d .none) _ _ _;refine wpAny_bind (wpAny_updateSeq hS rfl ?_);have Xa:=Heap.get?_update_self (Obj.mapSeq λ_=>(#[]:Array Value)) hS rfl;have NO:∀ b o,b≠s.heap.objs.size->(s.heap.push { cls:=.type "list",data:=.seq #[] }).get? b=⇑o->((s.heap.push { cls:=.type "list",data:=.seq #[] }).update s.heap.objs.size (Obj.mapSeq λ_=>(#[]:Array Value))).get? b=⇑o:=λb o nb e=>(Heap.get?_update_other _ _ nb.symm).trans e;refine wpAny_bind (wpAny_letGo ?_);refine F2 (A:=A.in1) (knd:=knd) hh hs (F3.at' λo e=>NO _ o U6 e) dJ s.heap.objs.size .none _ Xa λh' tk qK c' hk hS' cP=>?_;exact⟨rfl,hQ h' tk qK c' (λb o e=>hk b o (jv (Heap.lt_size e)) (NO b o (jv (Heap.lt_size e)) (Heap.get?_push_of_some _ e))) hS' cP⟩
end
def Jg{X:Cx}(hc:X.calm=true):jA X (.type "list") (λxs H Q=>∃ (d:Addr) (kvs:List (dN × V)),xs=[↥d]/\H d=⇑(.dK kvs)/\∀ l,H l=none->Q ↥l (aN H l (.lst (kvs.map λp=>kV p.1)))):=by
 intro ao s σ H xs us Q I r h;let⟨d,kvs,rfl,hd,q⟩:=h;let⟨u,rfl,rx⟩:=r.one;cases (show u=Value.ref d from rx);let⟨hz,hs,vs,kv,o,es,ep,ho,hx⟩:=(show fC X.prog X.w H s.heap d (.dK kvs) from I.hok d _ hd);have len:=↑kv;refine Aq (I.ok.hd hc) hs ⟨o,es,ho,hx⟩ ∅ λh' tk qK c' hk hS cP=>?_;refine⟨↥s.heap.objs.size,_,I.laid (o:=.lst (kvs.map λp=>kV p.1)) (t':=tk) hk (fK _) ⟨by rw[cB];exact hz,qK.toList,c',?_,by simpa using hS⟩,rfl,q _ (I.hok.fresh (fK _))⟩
 have key:∀ (kvs:List (dN × V)) (vs:List (dN × Value)) (us:List Value),KV kvs vs->↑us=↑vs->(∀ (j:Nat) (v:Value),us[j]?=⇑v->∃ k x,vs[j]?=⇑(k,x)/\yp k v=true)->b8 (kvs.map λp=>kV p.1) us:=by
  intro kvs
  induction kvs with
  | nil =>
   intro vs us kv hl _;cases kv
   cases us with
   | nil=>exact .nil
   | cons=>simp at hl
  | cons p r ih =>
   intro vs us kv hl hp
   cases kv with
   | @cons _ q _ DQ h1 h2 =>
   cases us with
   | nil=>simp at hl
   | cons u us =>
    let⟨k,x,e1,e2⟩:=hp 0 u rfl;have e3:q=(k,x):=by simpa using e1
    subst e3;refine .cons ?_ (ih DQ us h2 (by simpa using hl) λj v e=>?_)
    ·show L2.RelV (kV p.1) u;rw[show p.1=k from h1.1];rcases eK e2 with ⟨i,t,rfl,rfl⟩|⟨i,t,rfl,rfl⟩
     ·exact⟨t,rfl⟩
     ·exact⟨t,rfl⟩
    ·let⟨k',x',e4,e5⟩:=hp (j+1) v (by simpa using e);exact⟨k',x',by simpa using e4,e5⟩
 exact key kvs vs qK.toList kv (by simpa using cP.1) λj v e=>cP.2 j v (by simpa using e)
end cX
namespace yT
open Spec Rows L2 cX gB
end yT
namespace gB
open Spec Rows L2 cX fO yT
inductive cj{α β:Type}(R:α->β->Prop):List α->List β->Prop
 | nil:cj R [] []
 | cons {a:α} {b:β} {as:List α} {bs:List β}:R a b->cj R as bs->cj R (a::as) (b::bs)
section
variable {α β:Type} {R R':α->β->Prop} {as:List α} {bs:List β} {a:α} {b:β}
def cj.len{as:List α}{bs:List β}(h:cj R as bs):↑as=↑bs:=by
 induction h with
 | nil=>rfl
 | cons _ _ ih=>rw[jS,jS,ih]
theorem cj.get:∀ {as:List α} {bs:List β} {i:Nat},cj R as bs->as[i]?=⇑a->∃ b,bs[i]?=⇑b/\R a b
 | _,_,_,.nil,h=>by simp at h
 | _,_,0,.cons r _,h=>by simp at h;subst h;exact⟨Y,r⟩
 | _,_,i+1,.cons _ t,h=>by simp at h;simpa using t.get h
theorem cj.get':∀ {as:List α} {bs:List β} {i:Nat},cj R as bs->bs[i]?=⇑b->∃ a,as[i]?=⇑a/\R a b
 | _,_,_,.nil,h=>by simp at h
 | _,_,0,.cons r _,h=>by simp at h;subst h;exact⟨Y,r⟩
 | _,_,i+1,.cons _ t,h=>by simp at h;simpa using t.get' h
def cj.snoc{as:List α}{bs:List β}(t:cj R as bs)(h:R a b):cj R (as++[a]) (bs++[b]):=by
 induction t with
 | nil=>exact .cons h .nil
 | cons r _ ih=>exact .cons r ih
def cj.mono{as:List α}{bs:List β}(h:∀ a b,R a b->R' a b)(t:cj R as bs):cj R' as bs:=by
 induction t with
 | nil=>exact .nil
 | cons r _ ih=>exact .cons (h _ _ r) ih
theorem cj.set:∀ {as:List α} {bs:List β} (i:Nat),cj R as bs->R a b->cj R (as.set i a) (bs.set i b)
 | _,_,_,.nil,_=>.nil
 | _,_,0,.cons _ t,h=>.cons h t
 | _,_,i+1,.cons r t,h=>.cons r (t.set i h)
theorem cj.split:∀ {as:List α} {bs:List β},cj R as (bs++[b])->∃ O1 a,as=O1++[a]/\cj R O1 bs/\R a b
 | _,[],.cons r .nil=>⟨[],Y,.nil,r⟩
 | _,c::bs,.cons r t=>by
  let⟨O1,a,rfl,t',r'⟩:=t.split;exact⟨_::O1,a,rfl,.cons r t',r'⟩
end
inductive aS where
 | win (n:Int)
 | aK (a b:Int)
def Ar:aS->List V
 | .win n=>[.str "win",.int n]
 | .aK a b=>[.str "ink",.int a,.int b]
def cS(H:Hp)(v:V)(it:aS):Prop:=∃ a,v=↥a/\H a=⇑(.tup (Ar it))
theorem cS.same{H H':Hp}{v:V}{it:aS}(s:aI H H'):cS H v it->cS H' v it:=λ⟨a,e,h⟩=>⟨a,e,s _ _ h⟩
theorem cS.keep{H H':Hp}{v:V}{it:aS}{q:Addr}{xs:List V}(hq:H q=⇑(.lst xs))(k:cz q H H'):cS H v it->cS H' v it:=λ⟨a,e,h⟩=>⟨a,e,k a _ h (by
 intro z;rw[z,hq]at h
 cases h)⟩
def bw(H:Hp)(v:V)(aP:List aS):Prop:=∃ a vs,v=↥a/\H a=⇑(.lst vs)/\cj (cS H) vs aP
theorem bw.same{H H':Hp}{v:V}{aP:List aS}(s:aI H H'):bw H v aP->bw H' v aP:=λ⟨a,vs,e,h,t⟩=>⟨a,vs,e,s _ _ h,t.mono λ_ _=>cS.same s⟩
def gc(H:Hp)(r:Addr)(rows:List (List aS)):Prop:=∃ vs,H r=⇑(.lst vs)/\cj (bw H) vs rows
theorem gc.same{H H':Hp}{r:Addr}{rows:List (List aS)}(s:aI H H'):gc H r rows->gc H' r rows:=λ⟨vs,h,t⟩=>⟨vs,s _ _ h,t.mono λ_ _=>bw.same s⟩
def cS.eqv{H:Hp}{x y:V}{it:aS}(n:Nat)(h1:cS H x it)(h2:cS H y it):Eqv H (n+2) x y:=by
 let⟨a,rfl,e1⟩:=h1;let⟨b,rfl,e2⟩:=h2;refine .inr ⟨false,a,b,Z,e1,e2,rfl,λi u v eu ev=>?_⟩;rw[eu]at ev;cases ev
 cases it with
 | win n =>
  match i,eu with
  | 0,e=>cases e;exact .inl ⟨K⟩
  | 1,e=>cases e;exact .inl ⟨K⟩
  | k+2,e=>simp[Ar]at e
 | aK p q =>
  match i,eu with
  | 0,e=>cases e;exact .inl ⟨K⟩
  | 1,e=>cases e;exact .inl ⟨K⟩
  | 2,e=>cases e;exact .inl ⟨K⟩
  | k+3,e=>simp[Ar]at e
def bw.eqv{H:Hp}{x y:V}{aP:List aS}(n:Nat)(h1:bw H x aP)(h2:bw H y aP):Eqv H (n+3) x y:=by
 let⟨a,vs,rfl,e1,t1⟩:=h1;let⟨b,us,rfl,e2,t2⟩:=h2;refine .inr ⟨true,a,b,Z,e1,e2,by rw[t1.len,t2.len],λi u v eu ev=>?_⟩;let⟨z,ez,r1⟩:=t1.get eu;let⟨z',ez',r2⟩:=t2.get ev;rw[ez]at ez';cases ez';exact r1.eqv n r2
def bg(t:List aS)(e:Int):List aS :=
 if e<0 then t++[.win (-1-e)] else
 match t.getLast? with
 | some (.aK a b)=>if b=e then t.dropLast++[.aK a (e+1)] else t++[.aK e (e+1)]
 | _=>t++[.aK e (e+1)]
def aC(es:List Int):List aS:=es.foldl bg []
def eZ(aP:List aS):List Int:=aP.filterMap λit=>match it with|.win n=>⇑n|.aK _ _=>none
def dM(es:List Int):List Int:=es.filterMap λe=>if e<0 then some (-1-e) else none
def gm(a b:List aS):eZ (a++b)=eZ a++eZ b:=by unfold eZ;rw[List.filterMap_append]
def MB(t:List aS)(e:Int):eZ (bg t e)=eZ t++(if e<0 then [-1-e] else []):=by
 unfold bg;by_cases h:e<0
 ·rw[if_pos h,if_pos h,gm];rfl
 ·rw[if_neg h,if_neg h,fV];rcases qG t with rfl|⟨t',l,rfl⟩
  ·rfl
  ·rw[nK,tN]
   cases l with
   | win n=>simp[gm,eZ]
   | aK a b =>
    show eZ (if b=e then (t'++[aS.aK a b]).dropLast++[.aK a (e+1)] else (t'++[aS.aK a b])++[.aK e (e+1)])=_;by_cases hb:b=e
    ·rw[if_pos hb,List.dropLast_concat,gm,gm];rfl
    ·rw[if_neg hb,gm,gm];simp[eZ]
def MC(es:List Int):∀ t:List aS,eZ (es.foldl bg t)=eZ t++dM es:=by
 induction es with
 | nil=>intro t;simp[dM]
 | cons e es ih =>
  intro t;rw[mh,ih,MB,m8];unfold dM;rw[List.filterMap_cons];by_cases h:e<0
  ·simp[h]
  ·simp[h]
def iI(es:List Int):eZ (aC es)=dM es:=by
 unfold aC;rw[MC];rfl
def cD{es:List Int}{y:Int}:y∈dM es↔0<=y/\-1-y∈es:=by
 unfold dM;rw[List.mem_filterMap];constructor
 ·rintro⟨e,he,h⟩;by_cases h0:e<0
  ·rw[if_pos h0]at h;cases h;exact⟨by lia,by rw[show -1-(-1-e)=e by lia];exact he⟩
  ·rw[if_neg h0]at h;cases h
 ·rintro⟨h0,h1⟩;exists -1-y,h1;rw[if_pos ∅];congr 1;lia
def oV(es:List Int):∀ t:List aS,↑(es.foldl bg t)<=↑t+↑es:=by
 induction es with
 | nil=>intro t;simp
 | cons e es ih =>
  intro t;rw[mh];have z:=ih (bg t e)
  have z2:↑(bg t e)<=↑t+1:=by
   unfold bg;split
   ·simp
   ·split
    ·split
     ·rw[cT,List.length_dropLast,gV];lia
     ·simp
    ·simp
  rw[jS];lia
def gO(rows:cJ)(x y:Int):Prop:=0<=x/\∃ es,rows[x.toNat]?=⇑es/\y∈dM es
inductive Reach(E:Int->Int->Prop)(s:Int):Int->Prop
 | one {y:Int}:E s y->Reach E s y
 | step {y z:Int}:Reach E s y->E y z->Reach E s z
theorem Reach.closed{E:Int->Int->Prop}{s:Int}{S:Int->Prop}(h0:∀ y,E s y->S y)(h1:∀ x y,S x->E x y->S y):∀ {g:Int},Reach E s g->S g
 | _,.one h=>h0 _ h
 | _,.step r h=>h1 _ _ (Reach.closed h0 h1 r) h
def gf(rows:cJ):Prop:=∀ es∈rows,∀ y∈dM es,y<↑rows
def gf.Bp{rows:cJ}(h:gf rows){x y:Int}(e:gO rows x y):0<=y/\y<↑rows:=by
 let⟨_,es,he,hy⟩:=e;exact⟨(cD.mp hy).1,h es (nJ he) y hy⟩
def Walk(E:Int->Int->Prop)(s:Int)(w:List Int):Prop:=w[0]?=⇑s/\∀ (i:Nat) (x y:Int),w[i]?=⇑x->w[i+1]?=⇑y->E x y
theorem Walk.one(E:Int->Int->Prop)(s:Int):Walk E s [s]:=⟨rfl,λi x y _ h=>by simp at h⟩
def Walk.snoc{E:Int->Int->Prop}{s e y:Int}{w:List Int}(h:Walk E s w)(hl:w.getLast?=⇑e)(he:E e y):Walk E s (w++[y]):=by
 let⟨h0,h1⟩:=h;have hw:w≠[]:=by intro z;rw[z]at hl;cases hl
 have hpos:0<↑w:=by cases w with|nil=>exact absurd rfl hw|cons _ _=>simp
 refine⟨by rw[yP hpos];exact h0,λi x z hx hz=>?_⟩;by_cases c:i+1<↑w
 ·rw[yP c]at hz;rw[yP ∅]at hx;exact h1 i x z hx hz
 ·have c2:i+1=↑w:=by
   have:i+1<↑(w++[y]):=by
    rcases Nat.lt_or_ge (i+1) ↑(w++[y]) with q|q
    ·exact q
    ·rw[List.getElem?_eq_none q]at hz;cases hz
   rw[cT,gV]at this;lia
  rw[c2,List.getElem?_append_right (fK _),Nat.sub_self]at hz;rw[yP ∅]at hx;rw[List.getLast?_eq_getElem?]at hl;have:i=↑w-1:=by lia
  rw[this,hl]at hx;cases hx;cases hz;exact he
def Walk.reach{E:Int->Int->Prop}{s:Int}{w:List Int}(h:Walk E s w):∀ (i:Nat) (y:Int),w[i+1]?=⇑y->Reach E s y:=by
 intro i
 induction i with
 | zero=>intro y hy;exact .one (h.2 0 s y h.1 hy)
 | succ i ih =>
  intro y hy
  have:∃ x,w[i+1]?=⇑x:=by
   rcases Nat.lt_or_ge (i+1) ↑w with q|q
   ·exact⟨w[i+1],tK q⟩
   ·rw[List.getElem?_eq_none ∅]at hy;cases hy
  let⟨x,hx⟩:=this;exact .step (ih x hx) (h.2 _ _ _ hx hy)
def cnt(n:Nat)(p:Nat->Bool):Nat:=↑((List.range n).filter p)
def O2(n:Nat){p q:Nat->Bool}(h:∀ i,i<n->p i=q i):cnt n p=cnt n q:=by
 unfold cnt;rw[List.filter_congr λi hi=>h i (List.mem_range.mp hi)]
def vO(n:Nat)(p:Nat->Bool):cnt (n+1) p=cnt n p+(if p n=true then 1 else 0):=by
 unfold cnt;rw[List.range_succ,List.filter_append,cT];congr 1;by_cases h:p n=true
 ·rw[if_pos h];simp[h]
 ·rw[if_neg h];simp[h]
theorem vP(j:Nat):∀ (n:Nat) {p q:Nat->Bool},j<n->p j=true->(∀ i,q i=(p i&&decide (i≠j)))->cnt n q+1=cnt n p
 | 0,_,_,h,_,_=>by lia
 | n+1,p,q,h,hj,hq=>by
  rw[vO,vO];by_cases e:j=n
  ·subst e
   have z:cnt j q=cnt j p:=O2 j λi hi=>by
    rw[hq i];have:decide (i≠j)=true:=by simp;lia
    rw[this,Bool.and_true]
   have z2:q j=false:=by rw[hq j];simp
   rw[z,z2,if_pos hj];simp
  ·have ih:=vP j n (p:=p) (q:=q) ∅ hj hq
   have z:q n=p n:=by
    rw[hq n];have:decide (n≠j)=true:=by simp;lia
    rw[this,Bool.and_true]
   rw[z];lia
def As(n:Nat)(p:Nat->Bool):cnt n p<=n:=by
 unfold cnt;have:=List.length_filter_le p (List.range n);rw[List.length_range]at this;exact this
def fF(av:Addr->Prop)(H:Hp)(v:V)(es:List Int):Prop:=∃ a,v=↥a/\¬ av a/\H a=⇑(.lst (es.map V.int))
def iu(av:Addr->Prop)(H:Hp)(r:Addr)(rows:cJ):Prop:=∃ vs,H r=⇑(.lst vs)/\cj (fF av H) vs rows
theorem fF.keep{av:Addr->Prop}{H H':Hp}{v:V}{es:List Int}(k:∀ a o,¬ av a->H a=⇑o->H' a=⇑o):fF av H v es->fF av H' v es:=λ⟨a,e,n,h⟩=>⟨a,e,n,k a _ n h⟩
theorem iu.same{av:Addr->Prop}{H H':Hp}{r:Addr}{rows:cJ}(s:aI H H'):iu av H r rows->iu av H' r rows:=λ⟨vs,h,t⟩=>⟨vs,s _ _ h,t.mono λ_ _=>fF.keep λa o _ e=>s a o e⟩
def iu.get{av:Addr->Prop}{H:Hp}{r:Addr}{rows:cJ}{i:Nat}{es:List Int}(h:iu av H r rows)(e:rows[i]?=⇑es):∃ vs a,H r=⇑(.lst vs)/\vs[i]?=⇑↥a/\H a=⇑(.lst (es.map V.int))/\↑vs=↑rows:=by
 let⟨vs,hr,t⟩:=h;let⟨v,ev,a,rfl,_,ha⟩:=t.get' e;exact⟨vs,a,hr,ev,ha,t.len⟩
def zx(x:Int)(xs:List Int):inV (.int x) (xs.map V.int)=decide (x∈xs):=by
 unfold inV
 induction xs with
 | nil=>rfl
 | cons y ys ih =>
  rw[jy,List.any_cons,ih];show ((y == x) || decide (x∈ys))=_;by_cases h:y=x
  ·simp[h]
  ·have h2:¬ x=y:=λz=>h z.symm;simp[h,h2]
def sS(xs:List Int):(xs.map V.int).all vD=true:=by
 rw[List.all_eq_true];intro v hv;let⟨i,_,rfl⟩:=List.mem_map.mp hv;rfl
def Bq(rows:cJ):Prop:=∃ rk:Int->Nat,(∀ x,rk x<=40)/\∀ x y,gO rows x y->rk y<rk x
theorem fF.at{av:Addr->Prop}{H:Hp}{v:V}{es:List Int}{q:Addr}(o:HO)(hq:av q):fF av H v es->fF av (aN H q o) v es:=fF.keep λa u n e=>by
 rw[aL (λz=>n (by rw[z];exact hq))];exact e
theorem fF.same{av:Addr->Prop}{H H':Hp}{v:V}{es:List Int}(s:aI H H'):fF av H v es->fF av H' v es:=fF.keep λa u _ e=>s a u e
def seen(kvs:List (dN × V))(x:Int):Prop:=(cL kvs (Sum.inl x)).isSome=true
def oj(n:Nat)(kvs:List (dN × V)):Nat:=cnt n λi=>(cL kvs (Sum.inl (i:Int))).isNone
def rF{kvs:List (dN × V)}{y x:Int}(v:V):seen (dc kvs (Sum.inl y) v) x↔x=y\/seen kvs x:=by
 unfold seen;rw[kj];by_cases h:x=y
 ·rw[if_pos (by rw[h]),h];simp
 ·rw[if_neg (λz=>h (Sum.inl.inj z))];simp[h]
def F4{n:Nat}{kvs:List (dN × V)}{y:Int}(v:V)(h0:0<=y)(h1:y<n)(hn:cL kvs (Sum.inl y)=none):oj n (dc kvs (Sum.inl y) v)+1=oj n kvs:=by
 refine vP y.toNat n ∅ ?_ λi=>?_
 ·show (cL kvs (Sum.inl (y.toNat:Int))).isNone=true;rw[show ((y.toNat:Nat):Int)=y by lia,hn];rfl
 ·show (cL (dc kvs (Sum.inl y) v) (Sum.inl (i:Int))).isNone=((cL kvs (Sum.inl (i:Int))).isNone&&decide (i≠y.toNat));rw[kj];by_cases h:(i:Int)=y
  ·rw[if_pos (by rw[h])];have:decide (i≠y.toNat)=false:=by simp;lia
   rw[this,Bool.and_false];rfl
  ·rw[if_neg (λz=>h (Sum.inl.inj z))];have:decide (i≠y.toNat)=true:=by simp;lia
   rw[this,Bool.and_true]
def vQ(lo:Int)(n:Nat):↑(run lo n)=n:=by
 induction n generalizing lo with
 | zero=>rfl
 | succ n ih=>rw[run,jS,ih]
theorem Jh:∀ {n:Nat} {lo y:Int},y∈run lo n->lo<=y/\y<lo+n
 | 0,_,_,h=>by cases h
 | n+1,lo,y,h=>by
  rcases List.mem_cons.mp h with rfl|z
  ·lia
  ·have:=Jh z;lia
theorem cj.new{H2:Hp}{q t:Addr}{vs:List V}{aP:List aS}{it:aS}{ys:List V}(eN:H2 q=⇑(.lst ys))(hb:cj (cS H2) vs aP)(ht:H2 t=none)(zs:List V) :
  cj (cS (aN (aN H2 t (.tup (Ar it))) q (.lst zs))) (vs++[↥t]) (aP++[it]):=by
 have WR:q≠t:=aA eN ht;have s1:aI H2 (aN H2 t (.tup (Ar it))):=ak ht _;refine cj.snoc (hb.mono λv i h=>(h.same s1).keep (s1 _ _ eN) (aG q _ _)) ⟨t,rfl,?_⟩;rw[aL WR.symm,af]
end gB
namespace Xb
open Spec Rows L2 cX
section
variable {M:Model} {A:Around} {E:Value->Shared->Prop} {s:Shared}
def DR{a b:Value}{Q:Value->Shared->Prop}(ha:s.TypeIs a "list")(hb:s.TypeIs b "list")(hc:wpAny M A (call (.builtin "list.__iadd__") [a,b]) Q E s):wpAny M A (inplaceOp .Add a b) Q E s:=by
 unfold inplaceOp;refine wpAny_holding ?_;have hq:isSeqSlot (⇑(.builtin "list.__iadd__"))=true:=by decide +kernel
 have hfi:fillsInplaceSlot (.type "list") "add" (Operator.Add == .Add)=pure false:=by
  unfold fillsInplaceSlot;show (typeLookup (.type "list") (dunderI "add") >>= λfi=>pure (fi.isSome&&!isSeqSlot fi))=pure false;rw[PySem.F.slot_list_iadd.lookup,pure_bind,hq];rfl
 have hsi:seqSlot? (.type "list") (dunderI "add")=pure (⇑(.builtin "list.__iadd__")):=PySem.seqSlot_of PySem.F.slot_list_iadd.lookup hq;refine wpAny_bind (wpAny_typeOf ha (wpAny_bind (wpAny_of_eq hfi ?_)));show wpAny M A (if false=true then _ else _) Q E s;rw[if_neg gF];refine wpAny_bind (binaryOp1_none (nm:="add") ha hb PySem.noFill_list_add ?_);refine wpAny_bind (wpAny_of_eq hsi ?_);exact wpAny_bind (wpAny_rule hc)
end
section
variable {X:Cx}
def U7:V->V->Hp->VK->Prop:=λx y H Q=>∃ l b xs zs,x=↥l/\y=↥b/\H l=⇑(.lst xs)/\H b=⇑(.lst zs)/\↑xs+↑zs<=sizeLine/\Q ↥l (aN H l (.lst (xs++zs)))
def xM:PIp X .Add U7:=by
 intro ao s σ H x y v u Q I rx ry h;let⟨l,b,xs,zs,rfl,rfl,hH,hB,hz,q⟩:=h;cases rx;cases ry;let⟨z,aP,n,r,hl,e⟩:=I.zT hH;let⟨z2,its2,n2,r2,Bu,e2⟩:=I.zT hB;have hsz:aP.toArray.size+its2.toArray.size<=sizeLine:=by rw[gP,gP];lia
 have Fw:¬ (!aP.toArray.isEmpty&&Builtin.List.listTooLong (aP.toArray.size+its2.toArray.size))=true:=by
  rw[zU hsz,Bool.and_false];exact gF
 refine DR ⟨_,e,rfl⟩ ⟨_,e2,rfl⟩ ?_;refine call_meets PySem.F.slot_list_iadd ⟨_,e,rfl⟩ PySem.F.entry_list_iadd (PySem.F.args_list_iadd_2 _ _) (AutoSeq1.list___iadd___list_list_0 l aP.toArray n b its2.toArray n2 Fw (by rw[gP];lia) ∅) ⟨e,e2,?_⟩;refine⟨↥l,_,I.Ou (its':=aP++its2) hH e (by simp) (r.append r2) ?_,rfl,q⟩;rw[cT];lia
section
variable {N:List Str} {scope:Scope} {cl:List (Str × Addr)} {C:Addr} {s₀:Shared} {H₀:Hp} {ex:List Addr} {pn:List (Addr × Obj)}
theorem Ji:jA (ja X N scope cl C s₀ H₀ ex pn) (.type "list") (ZU X.K):=eX
end
theorem Jj:Wn X .Add U7:=λao s σ H x y u v Q I rx ry h=>xM ao s σ H x y u v Q I rx ry h
end
def SK{p q A B T:Prop} [Decidable p] [Decidable q] (w:p->(if decide q=true then A else B)->T) (h1:p/\q->A) (h2:¬ (p/\q)->B):if decide p=true then T else (if false=true then A else B):=by
 by_cases a:p
 ·rw[if_pos (decide_eq_true a)];by_cases b:q
  ·exact w a (by rw[if_pos (decide_eq_true b)];exact h1 ⟨a,b⟩)
  ·exact w a (by rw[decide_eq_false b,if_neg gF];exact h2 λz=>b z.2)
 ·rw[decide_eq_false a,if_neg gF,if_neg gF];exact h2 λz=>a z.1
theorem O5{p q A B T:Prop} [Decidable p] [Decidable q] (w:(if decide q=true then A else B)->T) (h1:p/\q->A) (h2:¬ (p/\q)->B):if decide p=true then T else (if false=true then A else B):=SK (λ_=>w) h1 h2
end Xb
namespace gB
open Spec Rows L2 cX fO yT
def lI(r:Row):Prop:=∀ p∈r,0<=p.1/\p.1<=p.2
def jJ(r:Row):Prop:=∀ p∈r,0<=p.1/\p.1<p.2
def CY{t:Row}{s e:Int}(h:jJ t)(h0:0<=s)(h1:s<e):jJ (jw t s e):=by
 have add:jJ (t++[(s,e)]):=λp hp=>by
  rcases List.mem_append.mp hp with z|z
  ·exact h p z
  ·rw[List.mem_singleton.mp z];exact⟨h0,h1⟩
 unfold jw;rcases qG t with rfl|⟨t',l,rfl⟩
 ·exact add
 ·rw[nK]at h add ⊢;rw[tN];show jJ (if l.2=s then (t'++[l]).dropLast++[(l.1,e)] else t'++[l]++[(s,e)]);by_cases c:l.2=s
  ·rw[if_pos c,List.dropLast_concat];intro p hp;rcases List.mem_append.mp hp with z|z
   ·exact h p (tM _ z)
   ·have:=h l (by simp);rw[List.mem_singleton.mp z];exact⟨this.1,by show l.1<e;lia⟩
  ·rw[if_neg c];exact add
def oW{r:Row}(h:lI r):jJ (cy r):=by
 have z:∀ (r t:Row),lI r->jJ t->jJ (r.foldl ef t):=by
  intro r
  induction r with
  | nil=>intro t _ g;exact g
  | cons p r ih =>
   intro t h g;rw[mh];refine ih _ (λq hq=>h q (nI _ hq)) ?_;unfold ef;have hp:=h p (by simp);by_cases c:p.1=p.2
   ·rw[if_pos c];exact g
   ·rw[if_neg c];exact CY g hp.1 ∅
 exact z r [] h λp hp=>by cases hp
def CZ{ns:List Int}(h:∀ x∈ns,0<=x):jJ (cF ns):=by
 have z:∀ (ns:List Int) (t:Row),(∀ x∈ns,0<=x)->jJ t->jJ (ns.foldl (λt n=>jw t n (n+1)) t):=by
  intro ns
  induction ns with
  | nil=>intro t _ g;exact g
  | cons n ns ih =>
   intro t h g;rw[mh];exact ih _ (λx hx=>h x (nI _ hx)) (CY g (h n (by simp)) ∅)
 exact z ns [] h λp hp=>by cases hp
theorem jJ.nn{r:Row}(h:jJ r):lI r:=λp hp=>⟨(h p hp).1,by have:=(h p hp).2;lia⟩
theorem Au(a b:Int):∀ (r:Row) (h:Int),lI r->lI (kM a b h r)
 | [],_,_=>λp hp=>by cases hp
 | q::r,h,g=>by
  intro p hp;rw[kM]at hp;rcases List.mem_append.mp hp with z|z
  ·have gq:=g q (by simp);refine⟨?_,OV a b h q p z⟩;unfold OU at z;split at z
   ·rw[List.mem_singleton.mp z];show 0<=q.1+max (a-h) 0;lia
   ·cases z
  ·exact Au a b r _ (λx hx=>g x (nI _ hx)) p z
end gB
namespace SM
open Spec Rows L2 cX
end SM
namespace gB
open Spec Rows L2 cX fO yT SM
theorem C0:∀ as:List Addr,b8 (as.map V.ref) (as.map Value.ref)
 | []=>.nil
 | _::as=>.cons rfl (C0 as)
def adr:Value->Addr
 | .ref a=>a
 | _=>0
end gB
namespace gB
open Spec Rows L2 cX fO yT SM
theorem Lf:∀ {n:Nat} {s x:Int},x∈run s n↔s<=x/\x<s+n
 | 0,s,x=>by simp[run]
 | n+1,s,x=>by
  rw[run,List.mem_cons,Lf];lia
def Ris(r:Row):Prop:=r.Pairwise (λp q=>p.2<q.1)/\∀ p∈r,p.1<p.2
end gB
namespace gB
open Spec Rows L2 cX fO yT SM
end gB
namespace gB
open Spec Rows L2 cX fO yT Xb
structure cM(K:Frag)(C:Addr)(m fN:Str)(st:Stmt)(ps:List Str)(a:Addr)(d:FuncData):Prop where
 F:RZ K m fN st a d
 b:Binds K d ps []
 mt:Od K C m a
structure ClsAt(K:Frag)(mg:Str->Option Value)(x:Str)(C fi:Addr):Prop where
 cl:NG K C
 m:mg x=⇑↥C
 YN:Mk K C fi
theorem Xc{X:Cx}:Wn X .Add (ipI λi j=>i+j):=λao s σ H x y u v Q I rx ry h=>Io ao s σ H x y u v Q I rx ry h
end gB
namespace gB
open L2 cX fO
section
variable {p:List Value->Prop}
theorem us0(h:p []):∀ us:List Value,↑us=0->p us:=λus e=>by rw[List.length_eq_zero_iff.mp e];exact h
def YO{n:Nat}(h:∀ a (us:List Value),↑us=n->p (a::us)):∀ us:List Value,↑us=n+1->p us:=by
 intro us e
 cases us with
 | nil=>cases e
 | cons a us=>exact h a us (Nat.succ.inj e)
theorem us1(h:∀ a,p [a]):∀ us:List Value,↑us=1->p us:=YO λa=>us0 (p:=λus=>p (a::us)) (h a)
theorem us2(h:∀ a b,p [a,b]):∀ us:List Value,↑us=2->p us:=YO λa=>us1 (p:=λus=>p (a::us)) (h a)
theorem us3(h:∀ a b c,p [a,b,c]):∀ us:List Value,↑us=3->p us:=YO λa=>us2 (p:=λus=>p (a::us)) (h a)
theorem us4(h:∀ a b c d,p [a,b,c,d]):∀ us:List Value,↑us=4->p us:=YO λa=>us3 (p:=λus=>p (a::us)) (h a)
theorem us5(h:∀ a b c d e,p [a,b,c,d,e]):∀ us:List Value,↑us=5->p us:=YO λa=>us4 (p:=λus=>p (a::us)) (h a)
theorem us6(h:∀ a b c d e f,p [a,b,c,d,e,f]):∀ us:List Value,↑us=6->p us:=YO λa=>us5 (p:=λus=>p (a::us)) (h a)
end
section
variable {K:Frag} {mg:Str->Option Value} {h:Heap} {x fN:Str} {st:Stmt} {f C:Addr} {ps:List Str}
def DI.d(q:DI K x st f)(X:K.In h)(G:h.Ns mainGlobals mg)(b:∀ (kV yv pm:Value) (an:Option Addr) (cU ct:Value) (us:List Value),↑us=↑ps->bindArgs (fnOf x x (nh st) (jD st) (az st) .none kV yv pm an cU ct) ⟨us,[]⟩=pure (ps.zip us):=by intro _ _ _ _ _ _;first|exact us1 λ_=>rfl|exact us2 λ_ _=>rfl|exact us3 λ_ _ _=>rfl|exact us4 λ_ _ _ _=>rfl|exact us5 λ_ _ _ _ _=>rfl|exact us6 λ_ _ _ _ _ _=>rfl|exact us0 rfl):∃ fd,bZ K mg x st ps f fd:=by
 let⟨a,l,c,k⟩:=q;have F:=IQ l c k;exact⟨_,F,F.binds b,mg_of X G a⟩
def MI.d(q:MI K C x fN st f)(b:∀ (kV yv pm:Value) (an:Option Addr) (cU ct:Value) (us:List Value),↑us=↑ps->bindArgs (fnOf x fN (nh st) (jD st) (az st) .none kV yv pm an cU ct) ⟨us,[]⟩=pure (ps.zip us):=by intro _ _ _ _ _ _;first|exact us1 λ_=>rfl|exact us2 λ_ _=>rfl|exact us3 λ_ _ _=>rfl|exact us4 λ_ _ _ _=>rfl|exact us5 λ_ _ _ _ _=>rfl|exact us6 λ_ _ _ _ _ _=>rfl|exact us0 rfl):∃ fd,cM K C x fN st ps f fd:=by
 let⟨a,i,l,c,k⟩:=q;have F:=IQ l c k;exact⟨_,F,F.binds b,⟨a,i,k⟩⟩
def CI.d(q:CI K x C)(X:K.In h)(G:h.Ns mainGlobals mg)(m:Od K C "__init__" fi):ClsAt K mg x C fi:=by
 let⟨a,pg,hd,po,sa,mk,kc⟩:=q;let⟨a1,i1,k1⟩:=m;exact⟨⟨pg,hd,po,sa⟩,mg_of X G a,⟨mk,a1,i1,kc⟩⟩
end
end gB
namespace cX
open Spec Rows L2
theorem Av{α β:Type}{F:α->β->Prop}:∀ {xs:List α} {ys:List β} {i:Nat} {x:α},Paired F xs ys->xs[i]?=⇑x->∃ y,ys[i]?=⇑y/\F x y
 | _,_,_,_,.nil,e=>by simp at e
 | _,_,0,_,.cons r _,e=>by simp at e;subst e;exact⟨Y,r⟩
 | _,_,i+1,x,.cons _ t,e=>by
  let⟨y,h1,h2⟩:=Av (i:=i) (x:=x) t (by simpa using e);exact⟨y,by simpa using h1,h2⟩
theorem rG{α β:Type}{F:α->β->Prop}:∀ {xs:List α} {ys:List β} {i:Nat} {y:β},Paired F xs ys->ys[i]?=⇑y->∃ x,xs[i]?=⇑x/\F x y
 | _,_,_,_,.nil,e=>by simp at e
 | _,_,0,_,.cons r _,e=>by simp at e;subst e;exact⟨Y,r⟩
 | _,_,i+1,y,.cons _ t,e=>by
  let⟨x,h1,h2⟩:=rG (i:=i) (y:=y) t (by simpa using e);exact⟨x,by simpa using h1,h2⟩
theorem DS{X:Cx}:jA X (.builtin "sorted") (λxs H Q=>∃ (p:Addr) (ns:List Int),xs=[↥p]/\H p=⇑(.lst (ns.map V.int))/\↑ns<64/\
  ∀ (l:Addr) (ms:List Int),H l=none->ms.Perm ns->ms.Pairwise (·<=·)->Q ↥l (aN H l (.lst (ms.map V.int)))):=by
 intro ao s σ H xs us Q I r h;let⟨p,ns,rfl,hH,h64,q⟩:=h;let⟨u,rfl,rx⟩:=r.one;cases (show u=Value.ref p from rx);let⟨z,aP,n,rv,hl,e⟩:=I.zT hH;have hi:IntsAre aP ns:=intsAre_of rv;have len:=↑rv;rw[cB]at len;refine sorted_ints (vs:=aP) ⟨_,e,rfl,n,rfl⟩ hi ∅ λout ms h1 h2 h3=>?_;let⟨c,hc⟩:=sortedAll_at s.heap aP out;have pl:=h2.length_eq
 have v:b8 (ms.map V.int) out.toList:=by
  have key:∀ (us:List Value) (ms:List Int),IntsAre us ms->b8 (ms.map V.int) us:=by
   intro us
   induction us with
   | nil=>intro ms h;cases ms with
    | nil=>exact .nil
    | cons=>exact absurd ↑h (by simp)
   | cons u us ih=>intro ms h;cases ms with
    | nil=>exact absurd ↑h (by simp)
    | cons m ms =>
     cases h with
     | cons _ t h=>exact .cons ⟨t,rfl⟩ (ih ms h)
  exact key _ _ h1
 have:(64:Nat)<=sizeLine:=by decide
 refine⟨.ref (s.heap.objs.size+1),_,I.laid (t':=s.toks) (λb o ob=>sortedAll_old ob) (Nat.le_succ _) (show fC X.prog X.w _ _ _ (.lst (ms.map V.int)) from ⟨by rw[cB];lia,_,c,v,?_⟩),rfl,q _ _ (I.hok.fresh (Nat.le_succ _)) h2 h3⟩;rw[hc]
section
variable {X:Cx} {N:List Str} {scope:Scope} {cl:List (Str × Addr)} {C:Addr} {s₀:Shared} {H₀:Hp} {ex:List Addr} {pn:List (Addr × Obj)} {e:Expr} {ta:TE} {f:Str} {pos:Pos}
theorem Lg(he:PE (ja X N scope cl C s₀ H₀ ex pn) e ta)(hb:attributeBase e f (ja X N scope cl C s₀ H₀ ex pn).env (eval e (ja X N scope cl C s₀ H₀ ex pn).env)=eval e (ja X N scope cl C s₀ H₀ ex pn).env):PE (ja X N scope cl C s₀ H₀ ex pn) (.Attribute e f pos) (ZH X.K ta f):=cC he hb
end
end cX
namespace cX
open Spec Rows L2 gB yT
def Xd(td ty tx:TE):TE:=fun σ H Q=>td σ H λx H1=>∃ a,x=↥a/\IsD H1 a/\ty σ H1 λy H2=>tx σ H2 λz H3=>∃ kvs k,H3 a=⇑(.dK kvs)/\y=kV k/\↑kvs<sizeLine/\
 (∀ v,cL kvs k=⇑v->Q v H3)/\(cL kvs k=none->Q z (aN H3 a (.dK (dc kvs k z))))
def O6{X:Cx}{e f:Expr}{td ty tx:TE}(ho:PE X o td)(he:PE X e ty)(hf:PE X f tx)(m:M2 X o "setdefault" jX e f oJ):PE X (.Call (.Attribute o "setdefault" jX) [e,f] [] oJ) (Xd td ty tx):=by
 intro ao s σ H Q I h;refine wpAny_Call_method m.zt m.few m.line PySem.F.plainAttrs_dict PySem.F.slot_dict_setdefault PySem.F.type_dict_setdefault (c9 (ho ao s σ H _ I h) λu s1 Dy=>?_);let⟨x,H1,I1,rx,a,ex,d,q1⟩:=Dy;subst ex;obtain rfl:u=Value.ref a:=rx;let⟨t1,t2,_⟩:=OX I1 d;exists t1,t2;rw[m.trees]
 refine Calls.callWith_builtin rfl (Calls.evalArgs_plain (Calls.spliced_cons (c9 (he ao s1 σ H1 _ I1 q1) λiv s2 ⟨y,H2,I2,ry,q2⟩ =>
  Calls.spliced_cons (c9 (hf ao s2 σ H2 _ I2 q2) λfv s3 ⟨z,H3,I3,rz,kvs,k,ea,ey,dJ,g1,g2⟩=>Calls.spliced_nil ?_))))
 subst ey;let⟨hz,hd,vs,sO,dd⟩:=FT I3.hok ea;have len:=↑sO;refine call_meetsIn PySem.F.slot_dict_setdefault dd.typeIs PySem.F.entry_dict_setdefault (PySem.F.args_dict_setdefault_3 _ _ _) (kt_meets_setdefault (eE X.prog X.w) a (Ak ry) hd fv) ⟨vs,dd,by lia,λv hv=>?_,λhn h' Rj hs=>?_⟩
 ·have r:=sO.val k;rw[hv]at r
  cases ev:cL kvs k with
  | none=>rw[ev]at r;exact (show False from r).elim
  | some w =>
   rw[ev]at r;exact⟨w,H3,I3.tok _,r,g1 w ev⟩
 ·have r:=sO.val k;rw[hn]at r
  cases ev:cL kvs k with
  | some w=>rw[ev]at r;exact (show False from r).elim
  | none =>
   have hl:↑(dc kvs k z)<=sizeLine:=by have:=gb kvs k z;lia
   have CK:∃ q,h'.get? a=⇑q:=let ⟨q,E,hq,_⟩:=Rj;⟨q,hq⟩;exact⟨z,_,zq I3 (by rw[ea];exact True.intro) hs CK (Jd hl hd (sO.put k rz) Rj),rz,g2 ev⟩
end cX
namespace cX
open Spec Rows L2
end cX
namespace cX
open Spec Rows L2 gB yT
end cX
namespace fO
open Spec Rows PySem.W L2
end fO
namespace cX
open Spec Rows L2 fO
def By(c:Nat):V:=.str ⟨#[c]⟩
def eT(cs:List Nat):Str:=⟨cs.toArray⟩
def qc(x:Str):eT x.cps.toList=x:=by cases x;rfl
def qd(cs:List Nat):↑(eT cs)=↑cs:=by show (cs.toArray).size=_;simp
def SN{a b:List Nat}(h:eT a=eT b):a=b:=by
 have e:=congrArg (λx:Str=>x.cps.toList) h;simpa [eT] using e
theorem Lh:∀ {cs:List Nat} {us:List Value},b8 (cs.map By) us->StrsAre us (cs.map λc=>(⟨#[c]⟩:Str))
 | [],_,.nil=>.nil
 | c::cs,_,.cons ⟨t,e⟩ r=>by
  subst e;exact .cons _ t (Lh r)
def Jk(cs:List Nat):Txt.join (Str.ofString "") (cs.map λc=>(⟨#[c]⟩:Str))=eT cs:=by
 have e:Txt.join (Str.ofString "") (cs.map λc=>(⟨#[c]⟩:Str))=Str.join (Str.ofString "") (cs.map λc=>(⟨#[c]⟩:Str)):=by
  have z:=join_plain_closes (Str.ofString "") (cs.map λc=>(⟨#[c]⟩:Str));exact beq_iff_eq.mp z
 rw[e];have em:(Str.ofString "")=(⟨#[]⟩:Str):=by decide +kernel
 rw[em];clear e em
 induction cs with
 | nil=>rfl
 | cons c cs ih =>
  cases cs with
  | nil=>rfl
  | cons d cs =>
   rw[jy]at ih;have s:Str.join ⟨#[]⟩ ((c::d::cs).map λc=>(⟨#[c]⟩:Str))=Str.append (Str.append ⟨#[c]⟩ ⟨#[]⟩) (Str.join ⟨#[]⟩ ((⟨#[d]⟩:Str)::cs.map λc=>(⟨#[c]⟩:Str))):=rfl;rw[s,ih];show (⟨(#[c]++#[])++(d::cs).toArray⟩:Str)=⟨(c::d::cs).toArray⟩;simp
theorem C1:∀ cs:List Nat,(cs.map ((λx:Str=>↑x) ∘ λc=>(⟨#[c]⟩:Str))).sum=↑cs
 | []=>rfl
 | c::cs=>by rw[jy,List.sum_cons,C1 cs,jS];show 1+_=_;lia
theorem all_range:∀ bs:List Bool,(List.range ↑bs).all (λi=>bs.getD i false)=bs.all id
 | []=>rfl
 | b::bs=>by
  rw[jS,List.range_succ_eq_map,List.all_cons,List.all_map,List.all_cons,← all_range bs];rfl
section
variable {X:Cx}
def BA(hc:X.calm=true):jA X (.type "list") (λxs H Q=>∃ cs:List Nat,xs=[.str (eT cs)]/\↑cs<=sizeLine/\∀ l,H l=none->Q ↥l (aN H l (.lst (cs.map By)))):=by
 intro ao s σ H xs us Q I r h;let⟨cs,rfl,hz,q⟩:=h;let⟨u,rfl,t,rfl⟩:=r.one;refine call_list_str (I.ok.hd hc) (eT cs) t (hn:=by show cs.toArray.size<=_;simpa using hz) λh' tk qK c' hk hS cP=>?_;refine⟨↥s.heap.objs.size,_,I.laid (o:=.lst (cs.map By)) (t':=tk) hk (fK _) ⟨by rw[cB];exact hz,qK.toList,c',?_,by simpa using hS⟩,rfl,q _ (I.hok.fresh (fK _))⟩
 have key:∀ (cs:List Nat) (us:List Value),↑us=↑cs->(∀ (j:Nat) (v:Value),us[j]?=⇑v->∃ c u,cs[j]?=⇑c/\v=Value.str ⟨#[c]⟩ u)->b8 (cs.map By) us:=by
  intro cs
  induction cs with
  | nil=>intro us hl _;cases us with
   | nil=>exact .nil
   | cons=>simp at hl
  | cons c cs ih=>intro us hl hp;cases us with
   | nil=>simp at hl
   | cons u us =>
    let⟨c',t',e1,e2⟩:=hp 0 u rfl;refine .cons ?_ (ih us (by simpa using hl) λj v e=>by simpa using hp (j+1) v (by simpa using e));have:c=c':=by simpa using e1
    subst this;exact⟨t',e2⟩
 refine key cs qK.toList (by have:=cP.1;simpa [eT] using this) λj v e=>?_;let⟨c,u,e1,e2⟩:=cP.2 j v (by simpa using e);exact⟨c,u,by simpa [eT] using e1,e2⟩
def O7:WA X "str.join" (λx xs H Q=>∃ (l:Addr) (cs:List Nat),x=.str ""/\xs=[↥l]/\H l=⇑(.lst (cs.map By))/\↑cs<=1000000/\Q (.str (eT cs)) H):=by
 intro ao s σ H x xs v us Q I rx rs h;let⟨l,cs,rfl,rfl,hl,hz,q⟩:=h;let⟨t,rfl⟩:=rx;let⟨u,rfl,ru⟩:=rs.one;cases (show u=Value.ref l from ru);let⟨aP,rv,pl,_⟩:=I.list (bG.of (K:=X.K) hl);refine join_list pl.isList (Lh rv) ?_ λt' k=>?_
 ·rw[List.map_map];have e1:↑(Str.ofString "")=0:=by decide +kernel
  have e2:=C1 cs;rw[e1,e2];lia
 ·rw[Jk];exact⟨.str (eT cs),H,I.tok _,⟨t',rfl⟩,q⟩
def MD(hc:X.calm=true):jA X (.builtin "all") (λxs H Q=>∃ (p:Addr) (bs:List Bool),xs=[↥p]/\bG X.K H p (bs.map V.bl)/\Q (.bl (bs.all id)) H):=by
 intro ao s σ H xs us Q I r h;let⟨p,bs,rfl,hq,q⟩:=h;let⟨u,rfl,rx⟩:=r.one;cases (show u=Value.ref p from rx);let⟨aP,rv,pl,hz⟩:=I.list hq;have len:=↑rv;rw[cB]at len;have E6:=pl.isList
 have plt:p<s.heap.objs.size:=by
  let⟨o,ho,_⟩:=E6;exact Heap.lt_size ho
 refine call_all_walk (wpAny_pyIter_list E6 ?_);refine⟨s.heap.objs.size,[s.heap.objs.size,p],[s.heap.objs.size],aP.toArray.size,E,λi=>bs.getD i false,rfl,Walks.list (A:=X.A.in1) (I.ok.hd hc) s.heap.objs.size p (jv plt) aP.toArray,⟨⟨_,Heap.get?_push_size _ rfl,K⟩,E6.at λo e=>Heap.get?_push_of_some _ e⟩,λi v s' Q' E' hP hQ=>?_,λh' tk hk=>?_⟩
 ·have hv:aP[i]?=⇑v:=by simpa using hP
  let⟨x,ex,er⟩:=rG rv hv;rw[mY]at ex;let⟨b,eb,rfl⟩:=Option.map_eq_some_iff.mp ex;cases (show v=Value.bool b from er);refine wpAny_truthy_bool ?_;have e:bs.getD i false=b:=by rw[List.getD_eq_getElem?_getD,eb];rfl
  have hQ':Q' (bs.getD i false) s':=hQ;rw[e]at hQ';exact hQ'
 ·have e:(List.range aP.toArray.size).all (λi=>bs.getD i false)=bs.all id:=by
   rw[gP,← len];exact all_range bs
  rw[e];exact⟨.bl (bs.all id),H,I.kept λb o e=>hk b o (λz=>by rw[List.mem_singleton.mp z]at e;exact absurd (Heap.lt_size e) (Nat.lt_irrefl _)) (Heap.get?_push_of_some _ e),rfl,q⟩
def O8(r r' r2:R2)(ta tb tc td:TE):TE:=fun σ H Q=>ta σ H λx H1=>tb σ H1 λy H2=>r x y H2 λz H3=>∃ k,z=.bl k/\
 (if k=true then tc σ H3 λu H4=>r' y u H4 λz' H5=>∃ k',z'=.bl k'/\(if k'=true then td σ H5 λv H6=>r2 u v H6 Q else Q (.bl false) H5) else Q (.bl false) H3)
theorem ME{op HS WU:CmpOp}{r r' r2:R2}{a b c d:Expr}{ta tb tc td:TE}(ho:uA X (compareOp op) r)(LO:uA X (compareOp HS) r')(ho2:uA X (compareOp WU) r2)(ha:PE X a ta)(hb:PE X b tb)(hc:PE X c tc)(hd:PE X d td)
  (hm:lastMarks [op,HS,WU] [b,c,d]=false:=by with_unfolding_all rfl):PE X (.Compare a [op,HS,WU] [b,c,d] pos) (O8 r r' r2 ta tb tc td):=by
 intro ao s σ H Q I h
 refine Compare_chain (c9 (ha ao s σ H _ I h) λv s1 ⟨x,H1,I1,r1,q1⟩=>chain_link (c9 (hb ao s1 σ H1 _ I1 q1) λu s2 ⟨y,H2,I2,r2',q2⟩ =>
  c9 (ho ao s2 σ H2 x y v u _ I2 r1 r2' q2) λz s3 ⟨z',H3,I3,r3,k,e,q3⟩=>?_)) hm
 subst e;cases r3;refine wpAny_truthy_bool ?_
 cases k with
 | false=>exact ite_ff ⟨.bl false,H3,I3,rfl,q3⟩
 | true =>
  refine ite_tt (chain_link (c9 (hc ao s3 σ H3 _ I3 q3) λv4 s4 ⟨x4,H4,I4,r4,q4⟩=>c9 (LO ao s4 σ H4 y x4 u v4 _ I4 r2' r4 q4) λz5 s5 Ij=>?_));let⟨x5,H5,I5,r5,k5,e5,q5⟩:=Ij;subst e5;cases r5;refine wpAny_truthy_bool ?_
  cases k5 with
  | false=>exact ite_ff ⟨.bl false,H5,I5,rfl,q5⟩
  | true=>exact ite_tt (chain_last (c9 (hd ao s5 σ H5 _ I5 q5) λv6 s6 ⟨x6,H6,I6,r6,q6⟩=>ho2 ao s6 σ H6 x4 x6 v4 v6 Q I6 r4 r6 q6))
end
def Its(cs:List Nat):It:=⟨λi _=>i<↑cs,λi H x H'=>H'=H/\∃ c,cs[i]?=⇑c/\x=By c,λi _=>i=↑cs⟩
theorem F5{P:Program}{w:World}{K:Frag}{it:Addr}{cs:List Nat}{t:Tok}{ty:String}(W:∀ A':Around,A'.handled=none->Walks P w A' it [it] [it] (eT cs).cps.size (SignAt (eT cs)) (λi h=>h.IsStrIter it ty (eT cs) t i))
  (hs:∀ (A:Around) (i:Nat) (s:Shared) (Q:Value->Shared->Prop) (E:Value->Shared->Prop),s.heap.IsStrIter it ty (eT cs) t i->Q ↥it s->wpAny (model P w) A (pyIter ↥it) Q E s)
  (hn:["enumerate","zip","dict_itemiterator","dict_reverseitemiterator","odict_iterator","itertools.zip_longest","itertools.pairwise"].contains ty=false):Ip P w K tg (Its cs) [it] it (λi h=>h.IsStrIter it ty (eT cs) t i) where
 mem:=by simp
 obj:=λi h st b hb=>by
  have e:b=it:=by simpa using hb
  subst e;let⟨o,e,c,d⟩:=st;exact⟨o,e,λv z=>by rw[d]at z;cases z⟩
 keep:=λi h h' st k=>by
  let⟨o,e,r⟩:=st;exact⟨o,k it (by simp) o e,r⟩
 item:=by
  intro X hP hw hK hc i ao s σ H E I hf st hg;subst hP hw hK;let⟨f0,f1,f2,f3,f4,f5⟩:=hf it (by simp)
  have hi:i<(eT cs).cps.size:=by
   show i<cs.toArray.size;rw[gP];exact hg
  refine (W X.A (I.ok.hd hc)).item i s _ _ hi st λv h' tk hv DA kk=>?_;let⟨c,u,ec,rfl⟩:=hv;have I1:Inv X ao σ H { s with heap:=h',toks:=tk }:=I.turned (λb o hb e=>kk b o (by simpa using hb) e) f0 f1 f3 f4 f5;let⟨oi,ei,ci,di⟩:=id DA;exact⟨Y,Fp (s:={ s with heap:=h',toks:=tk }) ei ci di hn ⟨By c,H,I1,⟨u,rfl⟩,⟨rfl,c,by simpa [eT] using ec,rfl⟩,DA,λb hb=>(hf b hb).1⟩⟩
 done:=by
  intro X hP hw hK hc i ao s σ H E I hf st hg;subst hP hw hK;let⟨f0,f1,f2,f3,f4,f5⟩:=hf it (by simp)
  have e:i=(eT cs).cps.size:=by
   show i=cs.toArray.size;rw[gP];exact hg
  rw[e]at st;exact (W X.A (I.ok.hd hc)).done s _ _ st λh' tk kk=>⟨rfl,I.turned (λb o hb e=>kk b o (by simpa using hb) e) f0 f1 f3 f4 f5⟩
 self:=hs
def ae5(tl:TE):TI:=fun σ H R=>tl σ H λx H1=>∃ cs,x=.str (eT cs)/\R (Its cs) H1
def Xe{X:Cx}{tl:TE}(hl:PE X l tl):PI X tg l (ae5 tl):=by
 intro ao s σ H R I h;refine c9 (hl ao s σ H _ I h) λv s1 Ik=>?_;let⟨x,H1,I1,r1,q1⟩:=Ik;let⟨cs,e,q⟩:=q1;subst e;let⟨t,rfl⟩:=r1
 have fp:∀ b∈[s1.heap.objs.size],pH X ao H1 b:=λb hb=>by
  have e:b=s1.heap.objs.size:=by simpa using hb
  subst e;exact I1.LQ (fK _) (I1.hok.fresh (fK _))
 cases ha:(eT cs).cps.all (·<128) with
 | true=>exact wpAny_pyIter_ascii ha ⟨s1.heap.objs.size,[s1.heap.objs.size],E,H1,rfl,I1.kept (t':=s1.toks) λb o e=>Heap.get?_push_of_some _ e,F5 (t:=t) (λA' hA=>Walks.strAscii hA _ _ t) (λ_ _ _ _ _ st h=>wpAny_pyIter_striter_ascii st h) (by decide),⟨_,Heap.get?_push_size _ rfl,K⟩,fp,q⟩
 | false=>exact wpAny_pyIter_wide ha ⟨s1.heap.objs.size,[s1.heap.objs.size],E,H1,rfl,I1.kept (t':=s1.toks) λb o e=>Heap.get?_push_of_some _ e,F5 (t:=t) (λA' hA=>Walks.strWide hA _ _ t) (λ_ _ _ _ _ st h=>wpAny_pyIter_striter_wide st h) (by decide),⟨_,Heap.get?_push_size _ rfl,K⟩,fp,q⟩
theorem MF{cs:List Nat}{g:TG}{tt:TT}{te:TE}{σ0:L2.St}{H:Hp}{Q:VK}(Pv:Nat->L2.St->Hp->Prop)(h0:Pv 0 σ0 H)
  (hs:∀ (i:Nat) c σ H,cs[i]?=⇑c->Pv i σ H->g (By c) σ H fun σ2 H2=>tt σ2 H2 λb H3=>if b=true then te σ2 H3 λv H4=>∃ ys,H4 acc=⇑(.lst ys)/\↑ys<sizeLine/\Pv (i+1) σ2 (aN H4 acc (.lst (ys++[v]))) else Pv (i+1) σ2 H3)
  (hd:∀ σ H,Pv ↑cs σ H->Q ↥acc H):zu (Its cs) acc g tt te σ0 H Q:=by
 refine⟨λi m σ H=>m=↑cs-i/\i<=↑cs/\Pv i σ H,⟨↑cs,by simp,Nat.zero_le _,h0⟩,?_⟩;rintro i m σ H ⟨rfl,hi,p⟩;by_cases qP:i<↑cs
 ·refine .inr ⟨qP,Pv (i+1),fun σ' H' p'=>⟨↑cs-(i+1),by lia,rfl,qP,p'⟩,λx H' y=>?_⟩;let⟨e,c,y,ex⟩:=y;subst e ex;exact hs i c σ _ y p
 ·have e:i=↑cs:=by lia
  subst e;exact .inl ⟨rfl,hd σ H p⟩
end cX
namespace cX
open Spec Rows L2 fO gB
section
variable {X:Cx}
def DT(a b:List Nat):eT a++eT b=eT (a++b):=by
 show (⟨a.toArray++b.toArray⟩:Str)=⟨(a++b).toArray⟩;simp
end
end cX
namespace uX
end uX
namespace uX
open Spec Rows
end uX
namespace uX
open Spec Rows
end uX
namespace uX
open Spec Rows
end uX
namespace uX
open Spec Rows
end uX
namespace uX
open Spec Rows
end uX
namespace uX
open Spec Rows
end uX
namespace uX
open Spec Rows L2
end uX
namespace gJ
open Spec Rows L2 cX Builtin Builtin.Str
def sU(cs:List Nat):(eT cs).cps.toList=cs:=by simp[eT]
def jn(c:Nat):gW->List Nat
 | []=>[]
 | [x]=>x
 | x::y::r=>x++c::jn c (y::r)
theorem O9(c:Nat):∀ ps:gW,Str.join ⟨#[c]⟩ (ps.map eT)=eT (jn c ps)
 | []=>rfl
 | [x]=>rfl
 | x::y::r=>by
  show eT x++⟨#[c]⟩++Str.join ⟨#[c]⟩ ((y::r).map eT)=_;rw[O9 c (y::r)];refine ext_toList ?_;rw[sU];show ((eT x).cps++#[c]++(eT (jn c (y::r))).cps).toList=_;rw[Array.toList_append,Array.toList_append,sU,sU];simp[jn]
end gJ
namespace gJ
open Spec Rows L2 cX Builtin Builtin.Str
section
variable {X:Cx}
theorem C2:∀ {ys:List Str} {us:List Value},b8 (ys.map V.str) us->StrsAre us ys
 | [],_,.nil=>.nil
 | _::_,_,.cons r t=>by
  let⟨t',rfl⟩:=r;exact .cons _ t' (C2 t)
def F6:WA X "str.join" (λx xs H Q=>∃ (l:Addr) (c:Nat) (ps:gW),x=.str ⟨#[c]⟩/\xs=[↥l]/\H l=⇑(.lst (ps.map λw=>V.str (eT w)))/\(ps.map List.length).sum+↑ps<=1000000/\Q (.str (eT (jn c ps))) H):=by
 intro ao s σ H x xs v us Q I rx rs h;let⟨l,c,ps,rfl,rfl,hl,hz,q⟩:=h;let⟨t,rfl⟩:=rx;let⟨u,rfl,ru⟩:=rs.one;cases (show u=Value.ref l from ru);let⟨aP,rv,pl,_⟩:=I.list (bG.of (K:=X.K) hl);have rv':b8 ((ps.map eT).map V.str) aP:=by rw[List.map_map];exact rv
 refine join_list pl.isList (C2 rv') ?_ λt' k=>?_
 ·rw[List.map_map,cB];have e1:↑(⟨#[c]⟩:Str)=1:=rfl;have e2:ps.map ((λx:Str=>↑x) ∘ eT)=ps.map List.length:=List.map_congr_left λp _=>qd p;rw[e1,e2];lia
 ·have e:Txt.join ⟨#[c]⟩ (ps.map eT)=eT (jn c ps):=by
   show glued _ _=_;rw[StrLaws.glued_eq_join,O9]
  rw[e];exact⟨.str (eT (jn c ps)),H,I.tok _,⟨t',rfl⟩,q⟩
abbrev TJV:=L2.St->Hp->Str->(Str->Hp->Prop)->Prop
def YQ(X:Cx)(es:List Expr)(m:Nat)(t:TJV):Prop:=∀ (ao:List (Addr × Obj)) (s:Shared) (σ:L2.St) (H:Hp) (out:Str) (Q:Str->Hp->Prop),L2.Inv X ao σ H s->t σ H out Q->↑out+m<=1000000->
 wpAny (model X.prog X.w) X.A (joinParts out (evalEach es X.env)) (λu s'=>∃ x tk H',u=.str x tk/\L2.Inv X ao σ H' s'/\Q x H') X.xe s
theorem SO:YQ X [] 0 (λ_ H out Q=>Q out H):=λao s σ H out Q I h hl =>
 joinParts_nil ⟨out,_,H,rfl,I.tok _,h⟩ (gG (Nat.lt_of_le_of_lt hl (by decide)))
def SQ{x:Str}{j:Nat}{es:List Expr}{m:Nat}{t:TJV}(h:YQ X es m t):YQ X (.Constant (.str x) j pos::es) (↑x+m) (fun σ H out Q=>t σ H (out++x) Q):=by
 intro ao s σ H out Q I q hl;refine joinParts_consE (joinParts_cons (Calls.Constant_str ?_));have z:=fO.Lc (y:=x) hl (fK _);exact⟨z.1,h ao _ σ H _ Q (I.tok _) q z.2⟩
def Li{e:Expr}{te:TE}{es:List Expr}{m:Nat}{t:TJV}(he:PE X e te)(h:YQ X es m t):YQ X (.FormattedValue e (-1) none pos::es) (1921+m) (fun σ H out Q=>te σ H λv H1=>∃ i:Int,v=.int i/\i.natAbs.log2<1920/\t σ H1 (out++Str.ofString (toString i)) Q):=by
 intro ao s σ H out Q I q hl;refine joinParts_consE (joinParts_cons (FormattedValue_plain (c9 (he ao s σ H _ I q) λv s1 zI=>?_)));let⟨x,H1,I1,r1,i,e1,hi,q1⟩:=zI;subst e1;let⟨tk,rfl⟩:=r1;refine formatField_int_small hi ?_;have z:=fO.Lc (y:=Str.ofString (toString i)) hl (int_text_len_1921 hi);exact⟨z.1,h ao _ σ H1 _ Q (I1.tok _) q1 z.2⟩
def Pa{v1 v2:Expr}{vv:List Expr}{m:Nat}{t:TJV}(h:YQ X (v1::v2::vv) m t)(hm:m<=1000000:=by decide +kernel):PE X (.JoinedStr (v1::v2::vv) pos) (fun σ H Q=>t σ H Str.empty λx H1=>Q (.str x) H1):=by
 intro ao s σ H Q I q;refine JoinedStr_many (c9 (h ao s σ H Str.empty _ I q (by show 0+m<=_;lia)) λu s1 Fj=>?_);let⟨x,tk,H1,e,I1,q1⟩:=Fj;subst e;exact⟨.str x,H1,I1,⟨Y⟩,q1⟩
end
end gJ
namespace gJ
open Spec Rows L2 cX Builtin Builtin.Str
def BB(cs:List Nat)(lo hi:Option Int):List Nat:=(cs.drop (HT.gC ↑cs 0 lo)).take (HT.gC ↑cs ↑cs hi-HT.gC ↑cs 0 lo)
def F7(lo hi:Option Int)(n:Nat):strSliceIndices lo hi 1 n=(List.range (HT.gC n n hi-HT.gC n 0 lo)).map (HT.gC n 0 lo+·):=by
 let⟨h1,h2,h3⟩:=vC lo hi n;have e:strSliceIndices lo hi 1 n=sliceRange (sliceBounds lo hi none n).1 (sliceBounds lo hi none n).2.1 1:=rfl;rw[e,h1,h2,sliceRange_one]
def Xf{X:Cx}:SlR X (λx lo hi H Q=>∃ cs:List Nat,x=.str (eT cs)/\↑cs<=1000000/\Q (.str (eT (BB cs lo hi))) H):=by
 intro ao s σ H x v vl vu lo hi sl Q I rx hs pl pu h;let⟨cs,rfl,hz,q⟩:=h;let⟨t,rfl⟩:=rx;exists "str",_,F.slot_str_getitem.lookup,typeIs_str _ _ _
 obtain⟨l,rfl,el⟩:∃ l:Option (Int × Tok),vl=partValue l/\l.map (·.1)=lo:=by
  cases pl with
  | none=>exact⟨none,K⟩
  | int i t=>exact⟨⇑(i,t),K⟩
 obtain⟨u,rfl,eu⟩:∃ u:Option (Int × Tok),vu=partValue u/\u.map (·.1)=hi:=by
  cases pu with
  | none=>exact⟨none,K⟩
  | int i t=>exact⟨⇑(i,t),K⟩
 refine wpAny_getItem_str_slice (l:=l) (u:=u) (st:=none) hs rfl ?_
 have ep:slicePicked (eT cs) l u none=(List.range (HT.gC ↑cs ↑cs hi-HT.gC ↑cs 0 lo)).map (HT.gC ↑cs 0 lo+·):=by
  unfold slicePicked;rw[el,eu,qd];exact F7 lo hi ↑cs
 have ec:((slicePicked (eT cs) l u none).filterMap ((eT cs).cps[·]?))=BB cs lo hi:=by
  rw[ep];unfold BB;have:∀ i,(eT cs).cps[i]?=cs[i]?:=λi=>by rw[← Array.getElem?_toList,sU]
  simp only[this];have z:=pick_run cs.toArray (HT.gC ↑cs 0 lo) (HT.gC ↑cs ↑cs hi-HT.gC ↑cs 0 lo);simpa using z
 unfold sliceMade;split
 ·rename_i hc
  have e2:BB cs lo hi=cs:=by
   rw[ep]at hc;simp only[cB,List.length_range,Bool.and_eq_true,beq_iff_eq,qd]at hc;unfold BB;have:=hc.2
   have a1:HT.gC ↑cs 0 lo=0:=by
    have:HT.gC ↑cs ↑cs hi<=↑cs:=by
     cases hi with
     | none=>exact fK _
     | some k =>
      simp only[HT.gC]
      split <;> lia
    have:HT.gC ↑cs 0 lo<=↑cs:=by
     cases lo with
     | none=>exact Nat.zero_le _
     | some k =>
      simp only[HT.gC]
      split <;> lia
    lia
   rw[a1,List.drop_zero,uv ∅]
  rw[e2]at q;exact⟨.str (eT cs),H,I,⟨t,rfl⟩,q⟩
 ·exists ?_
  ·show (((slicePicked (eT cs) l u none).filterMap ((eT cs).cps[·]?)).toArray).size<=sizeLine;rw[ec,gP];unfold BB;rw[gr,qH];exact gX (show _<=1000000 by lia) (by decide)
  ·rw[ec];exact⟨.str (eT (BB cs lo hi)),H,I.tok _,⟨Y⟩,q⟩
end gJ
namespace gJ
open Spec Rows L2 cX Builtin Builtin.Str gB
def dg(n:Int):List Nat:=(Nat.toDigits 10 n.toNat).map Char.toNat
def zy{n:Int}(h:0<=n):Str.ofString (toString n)=eT (dg n):=by
 refine ext_toList ?_;rw[sU];obtain⟨m,rfl⟩:∃ m:Nat,n=(m:Int):=⟨n.toNat,by lia⟩;exact PySem.W.KIN.signs_num m
def Jl{n:Int}(h0:0<=n)(h1:n<10^60):↑(dg n)<=60:=by
 have:=toString_length_le h0 (k:=60) (by decide) h1;rw[zy h0,qd]at this;exact this
end gJ
namespace Pb
open Spec Rows PySem.W L2 cX fO
end Pb
namespace Pb
open Spec Rows PySem.W L2 cX fO
end Pb
namespace gJ
open Spec Rows L2 cX Builtin Builtin.Str gB
end gJ
namespace Pb
open Spec Rows PySem.W L2 cX fO
end Pb
namespace F8
open Spec Rows L2 cX fO gB
end F8
namespace F8
open Spec Rows L2 cX fO gB PySem.W
section
variable {X:Cx}
def aav{e:Expr}{te:TE}(he:PE X e te):PE X (.JoinedStr [.FormattedValue e (-1) none pos] iU) (fun σ H Q=>te σ H λv H1=>(∃ i:Int,v=.int i/\i.natAbs.log2<1920/\Q (.str (Str.ofString (toString i))) H1)\/∃ cs:List Nat,v=.str (eT cs)/\↑cs<=100000/\Q (.str (eT cs)) H1):=by
 intro ao s σ H Q I q;refine JoinedStr_one (FormattedValue_plain (c9 (he ao s σ H _ I q) λv s1 Dy=>?_));let⟨x,H1,I1,r1,h1⟩:=Dy;rcases h1 with ⟨i,rfl,hi,q1⟩|⟨cs,rfl,hc,q1⟩
 ·let⟨tk,rfl⟩:=r1;exact formatField_int_small hi ⟨.str _,H1,I1.tok _,⟨Y⟩,q1⟩
 ·let⟨tk,rfl⟩:=r1;exact formatField_str (λt' k=>⟨.str _,H1,I1.tok _,⟨Y⟩,q1⟩) (by rw[qd];exact gX hc (by decide))
end
end F8
namespace F8
open Spec Rows L2 cX fO gB gJ Builtin Builtin.Str
end F8
namespace F8
open Spec Rows L2 cX Builtin Builtin.Str gB
end F8
namespace fO
open Spec Rows PySem.W L2
section
variable {X:Cx} {ao:List (Addr × Obj)} {σ:L2.St} {H:Hp} {s:Shared} {a:Addr}
variable {x m:Str} {st:Stmt} {ps:List Str} {f C:Addr} {fd:FuncData} {j k:Nat} {sp:Sp} {e o:Expr} {es:List Expr} {ta:TE} {t:TA} {p jX pos:Pos} {pl:Sem Bool}
variable {te:TEx} {i:Nat} {z:Str} {iU:Pos} {c:Expr} {tc:TT} {tx ty:TSx} {a b:Stmt} {hs:List Hd}
theorem vR{y:Str}(d:gB.bZ X.K X.mg x st ps f fd)(hm:X.mg y=⇑↥f)(G:bq X.prog X.w X.K X.mg X.zt cO k f fd ps sp)(hr:jf j X.A)
  (ha:PA X (e::es) t) (WK:k<=j:=by first|decide|lia) (hg:Gl X y:=by rfl) (L5:(y == ("__debug__":Str))=false:=by decide) (he:starEach (e::es) X.env=(false,eval e X.env)::starEach es X.env:=by rfl)
  (E6:(backTo pos (starEach es X.env)).any (·.1)=false:=by rfl):PE X (.Call (.Name y p) (e::es) [] pos) (KG sp [] E0 t) :=
 KI G (hr.mono WK) hg hm d.F.kp d.b .nil bC ha L5 he E6
end
end fO
namespace qe
open Spec Rows PySem.W L2 cX fO
end qe
namespace qe
open Spec Rows PySem.W L2 cX fO
open Builtin Builtin.ObjectAttr
end qe
namespace qe
open Spec Rows PySem.W L2 cX fO
open Builtin Builtin.ObjectAttr
end qe
namespace qe
open Spec Rows PySem.W L2 cX fO
end qe
namespace qe
open Spec Rows PySem.W L2 cX fO
open Builtin Builtin.ObjectAttr
end qe
namespace qe
open Spec Rows PySem.W L2 cX fO
end qe
namespace qe
open Spec Rows PySem.W L2 cX fO
end qe
namespace qe
open Spec Rows PySem.W L2 cX fO
end qe
namespace qe
open Spec Rows PySem.W L2 cX fO
end qe
namespace qe
open Spec Rows PySem.W L2 cX fO
end qe
namespace gB
open Spec Rows L2 cX fO yT
theorem eO{N P:List Str}{sc:Scope}(a:sc.kind=.function:=by rfl)(b:sc.isCoroutine=false:=by rfl)(c:sc.isGenerator=false:=by rfl)(d:N.Nodup:=by decide +kernel)(e:N.take ↑P=P:=by rfl)(f:∀ x∈P,sc.names.lookup x=⇑.local\/sc.names.lookup x=⇑.cell:=by decide +kernel)(g:∀ y∈sc.names,y.2≠.free:=by decide +kernel):aF N P sc:=⟨a,b,c,d,e,f,g⟩
section
variable {P:Program} {w:World} {K:Frag} {mg:Str->Option Value} {zt:Heap}
theorem eS{x fN:Str}{st:Stmt}{f:Addr}{N ps:List Str}{k:Nat}{sp:Sp}(F:RZ K x fN st f fd)(S:aF N ps (az st))
  (Fv:∀ (cU:Value) (A:Around) (zn:List Env) (s:Shared) (H:Hp) (vs:List V) (Q:VK) (E:XK),jf k (A.deeper (envOfC fN (az st) s.heap.objs.size f cU))->sp vs H Q E->
   ∃ t,Kx (ID cO P w K mg zt N fN (az st) f cU A zn s H E).LP (jD st) t/\t { nx:=λ_ H'=>Q .fT H',rt:=Q } (L2.start N vs) H) (len:∀ vs H Q E,sp vs H Q E->↑vs=↑ps:=by intro _ _ _ _ h;cases h;subst_vars;rfl):bq P w K mg zt cO (k+1) f fd ps sp:=F.ok S len Fv
end
section
variable {X:Cx}
theorem aZ{i:Nat}{x:Str}{e:Expr}{te:TE}{pos:Pos}(hN:X.N.Nodup)(he:PE X e te)(hi:X.N[i]?=⇑x:=by rfl)(hx:Loc X.env.scope x:=by first|exact Or.inl rfl|exact Or.inr rfl)(hs:swapsWith e (some (.Name x iU)) pos.line X.env=pure false:=by rfl)(hf:X.fn x=true\/X.env.scope.names.lookup x=⇑.local:=by first|exact .inl rfl|exact .inr rfl|assumption) :
  PS X (.Assign [.Name x iU] e pos) (N6 te (qU i)):=Wg hN hi hx he hs hf
theorem bQ{i:Nat}{x:Str}(hN:X.N.Nodup)(hi:X.N[i]?=⇑x:=by rfl)(hx:Loc X.env.scope x:=by first|exact Or.inl rfl|exact Or.inr rfl)(hf:X.fn x=true\/X.env.scope.names.lookup x=⇑.local:=by first|exact .inl rfl|exact .inr rfl|assumption):PG X (.Name x pos) (qU i):=RI hN hi hx hf
def aO{r:R2}{a b:Expr}{ta tb:TE}(hr:ZP X r)(ha:PE X a ta)(hb:PE X b tb)(hs:KR b:=by exact λ_ _=>rfl):PE X (.Subscript a b pos) (ZA r ta tb):=ZQ hr ha hb hs
def kq{i:Expr}{td ty:TE}(hu:X.A.units+1<cLine)(ho:PE X o td)(hi:PE X i ty)(hs:WX i:=by exact λ_ _=>rfl):PE X (.Subscript o i pos) (U5 td ty):=SA hu ho hi hs
theorem gp{e:Expr}{te:TE}{p:Pos}(hm:X.mg "len"=none)(he:PE X e te)(hg:Gl X "len":=by rfl)(Dz:starEach [e] X.env=(false,eval e X.env)::starEach [] X.env:=by rfl):PE X (.Call (.Name "len" p) [e] [] pos) (tCB (Wy X.K) (Oe te zQ)):=bY DC hg hm PySem.boot_len (aa he ah (hs:=Dz)) (by decide) (by decide) Dz rfl
variable {CX:Of} {j k:Nat} {f C fi:Addr} {fd:FuncData} {ps:List Str} {sp:Sp} {E:XK} {m cn q:Str} {st:Stmt} {pos jX:Pos} {e o:Expr} {es:List Expr} {ta:TE} {t:TA} {pl:Sem Bool}
def cA(he:PE X o ta)(c:ClsAt X.K X.mg cn C fi)(d:cM X.K C m q st ps f fd)(F:bq X.prog X.w X.K X.mg X.zt CX k f fd ps sp)(hr:jf j X.A)(hx:nL CX X E)(ha:PA X (e::es) t)(WK:k<=j:=by first|decide|lia)
  (Dz:starEach (e::es) X.env=(false,eval e X.env)::starEach es X.env:=by rfl) (E6:(backTo pos (starEach es X.env)).any (·.1)=false:=by rfl)
  (ht:eval (.Call (.Attribute o m jX) (e::es) [] pos) X.env=(do
   let ov ← eval o X.env
   standAt jX.atName
   let (f,first) ← holding [ov] (getMethod ov m pl)
   callWith pos f first (backTo pos (starEach (e::es) X.env)) (backToKw pos (keywordEach [] X.env))):=by rfl) :
  PE X (.Call (.Attribute o m jX) (e::es) [] pos) (KH C m sp [] E ta t):=RP he c.cl d.mt F (hr.mono WK) d.b .nil hx ha Dz E6 ht
def fc(he:PE X o ta)(c:ClsAt X.K X.mg cn C fi)(d:cM X.K C m q st ps f fd)(F:bq X.prog X.w X.K X.mg X.zt CX k f fd ps sp)(hr:jf j X.A)(hx:nL CX X E)(WK:k<=j:=by first|decide|lia)
  (ht:eval (.Call (.Attribute o m jX) [] [] pos) X.env=(do
   let ov ← eval o X.env
   standAt jX.atName
   let (f,first) ← holding [ov] (getMethod ov m pl)
   callWith pos f first (backTo pos (starEach [] X.env)) (backToKw pos (keywordEach [] X.env))):=by rfl) :
  PE X (.Call (.Attribute o m jX) [] [] pos) (KH C m sp [] E ta zQ):=Oh he c.cl d.mt F (hr.mono WK) d.b .nil hx ht
end
def gQ:0<=sizeLine:=by decide
def ku:1<=sizeLine:=by decide
def oX:2<=sizeLine:=by decide
def F9:3<=sizeLine:=by decide
def DU:4<=sizeLine:=by decide
def aaw:5<=sizeLine:=by decide
def aax:6<=sizeLine:=by decide
theorem om{x:V}{r:List V}:qJ (x::r) 0=⇑x:=dm (j:=0) rfl
theorem rH{x y:V}{r:List V}:qJ (x::y::r) 1=⇑y:=dm (j:=1) rfl
theorem Aw{x y z:V}{r:List V}:qJ (x::y::z::r) 2=⇑z:=dm (j:=2) rfl
theorem BC{x y z u:V}{r:List V}:qJ (x::y::z::u::r) 3=⇑u:=dm (j:=3) rfl
theorem SR{x y z u v:V}{r:List V}:qJ (x::y::z::u::v::r) 4=⇑v:=dm (j:=4) rfl
theorem aay{x y z u v w:V}{r:List V}:qJ (x::y::z::u::v::w::r) 5=⇑w:=dm (j:=5) rfl
end gB
namespace aaz
open Spec Rows L2 cX
theorem MG(t:Bool)(x y:Value):keyLt' (tuples' t) x y=(do
  let xs ← Builtin.List.listItems x
  let ys ← Builtin.List.listItems y
  for ((p,q),i) in (xs.toList.zip ys.toList).zipIdx do
   if !(← eqBool p q) then return ← oneLt' (t&&i == 0) p q
  return decide (xs.size<ys.size)):=rfl
def C3{prog:Program}{w:World}{A:Around}{E:Value->Shared->Prop}{s:Shared}{a b:Int}{t u:Tok}{Q:Bool->Shared->Prop}(k:Bool)(h:Q (decide (a<b)) s):wpAny (model prog w) A (oneLt' k (.int a t) (.int b u)) Q E s:=by
 cases k with
 | true=>exact oneLt_int h
 | false =>
  rw[oneLt'_eq];simp only[Bool.false_eq_true,if_false];refine wpAny_bind ((PyProof.Rows.lt_int ?_:wpAny (model prog w) A (compareOp .Lt (.int a t) (.int b u)) _ E s));exact wpAny_truthy_bool h
def uY(h:Heap)(v:Value):Prop:=∃ a i j t u,v=↥a/\IsTup h a #[.int i t,.int j u]
def Jm{prog:Program}{w:World}{A:Around}{E:Value->Shared->Prop}{s:Shared}{x y:Value}{Q:Bool->Shared->Prop}(hx:uY s.heap x)(hy:uY s.heap y)(h:∀ b,Q b s):wpAny (model prog w) A (keyLt' (tuples' true) x y) Q E s:=by
 let⟨a,i,j,t1,t2,rfl,oa,ha1,ha2,na,ha3⟩:=hx;let⟨b,k,l,u1,u2,rfl,ob,DV,U8,nb,hb3⟩:=hy;rw[MG];refine wpAny_bind (listItems_at ha1 ha3 ?_);refine wpAny_bind (listItems_at DV hb3 ?_);have e:((#[Value.int i t1,.int j t2]:Array Value).toList.zip (#[Value.int k u1,.int l u2]:Array Value).toList).zipIdx=[((.int i t1,.int k u1),0),((.int j t2,.int l u2),1)]:=rfl;rw[e];simp only[List.forIn_cons,List.forIn_nil];refine wpAny_bind (wpAny_bind (wpAny_bind (SeqAt.EqAt.int_int i t1 k u1 prog w _ _ ?_)));split
 ·exact wpAny_bind (C3 _ (wpAny_pure (wpAny_pure (wpAny_pure (h _)))))
 refine wpAny_pure (wpAny_bind (wpAny_bind (SeqAt.EqAt.int_int j t2 l u2 prog w _ _ ?_)));split
 ·exact wpAny_bind (C3 _ (wpAny_pure (wpAny_pure (wpAny_pure (h _)))))
 ·exact wpAny_pure (wpAny_pure (wpAny_pure (h _)))
section
variable {prog:Program} {w:World} {A:Around} {E:Value->Shared->Prop} {s:Shared} {z:Array Keyed}
structure SS(z:Array Keyed)(st:SortSt):Prop where
 pm:(arrOf st).Perm z
 kd:kindOf st=tuples' true
 fl:failedOf st=none
 pd:pendingOf st=#[]
def Can(prog:Program)(w:World)(A:Around)(s:Shared)(z:Array Keyed):Prop :=
 ∀ r∈z.toList,∀ o∈z.toList,∀ (E:Value->Shared->Prop) (Q:Bool->Shared->Prop),(∀ b,Q b s)->wpAny (model prog w) A (keyLt' (tuples' true) r.1 o.1) Q E s
def SS.get{st:SortSt}(b:SS z st){i:Nat}(hi:i<z.size):∃ r∈z.toList,(arrOf st)[i]?=⇑r:=by
 have hi2:i<(arrOf st).size:=by rw[b.pm.size_eq];exact hi
 exact⟨(arrOf st)[i],(Array.perm_iff_toList_perm.mp b.pm).mem_iff.mp (by simp),getElem?_pos _ i hi2⟩
def cmp{st:SortSt}{i j:Nat}{Q:Option Bool->SortSt->Prop}(C:Can prog w A s z)(b:SS z st)(hi:i<z.size)(hj:j<z.size)(h:∀ v,Q (⇑v) st):wpS (model prog w) A E s (ltAt' i j) Q st:=by
 let⟨r,hr,e1⟩:=b.get hi;let⟨o,ho,e2⟩:=b.get hj;rw[ltAt'_eq];refine wpS_bind (wpS_get ?_);show wpS _ _ _ _ (do let u ← elem' (arrOf st) i;let v ← elem' (arrOf st) j;lt' u v) Q st;rw[elem'_eq,elem'_eq,e1,e2];refine wpS_bind (wpS_pure (wpS_bind (wpS_pure ?_)));rw[lt'_eq];refine wpS_bind (wpS_get ?_);rw[b.kd];exact wpS_bind (wpS_lift (wpAny_attempt (C r hr o ho _ _ λv=>⟨rfl,wpS_pure (h v)⟩)))
def Pc{st:SortSt}{a:Nat}{Q:AscSt->SortSt->Prop}(C:Can prog w A s z)(hn:z.size=2)(ha:1<=a)(an:a<=2)(b:SS z st)(h:∀ m,a<=m->m<=2->Q (none,m) st):wpS (model prog w) A E s (ascLoop a 2) Q st:=by
 unfold ascLoop;refine wpS_forRange (I:=λx c t=>t=st/\c=(none,x)) ?pG ?out ⟨K⟩
 case out =>
  rintro c t ⟨rfl,rfl⟩;rw[show max a 2=2 by lia];exact h 2 an (fK _)
 case pG =>
  rintro x c t ax xn ⟨rfl,rfl⟩;dsimp only;refine wpS_bind (cmp C b ∅ ∅ λv=>?_)
  cases v with
  | true =>
   simp only[if_true];exact wpS_pure (h x ax ∅)
  | false =>
   simp only[Bool.false_eq_true,if_false];exact wpS_pure ⟨K⟩
def MH{st:SortSt}{Q:Option Nat->SortSt->Prop}(C:Can prog w A s z)(hn:z.size=2)(b:SS z st)(h:∀ t,SS z t->Q (some 2) t):wpS (model prog w) A E s (countRun' 0 2) Q st:=by
 rw[countRun0_eq];refine wpS_bind (Pc C hn (fK 1) ∅ b λm m1 mn=>?_);dsimp only;by_cases c:m=2
 ·subst c;exact wpS_pure (h st b)
 have e:m=1:=by lia
 subst e;show wpS _ _ _ _ (descPart 1 2) _ _;unfold descPart;refine wpS_bind (wpS_lift (wpAny_rule ⟨rfl,?_⟩));unfold descLoop;refine wpS_bind (wpS_mono (wpS_forRange (I:=λ_ c t=>c=(none,2,0)/\t=st) (Q:=λc t=>c=(none,2,0)/\t=st) (λx c t a b=>by lia) (λ_ _ e=>e) ⟨K⟩) ?_);rintro c t ⟨rfl,rfl⟩;dsimp only;rw[if_neg (Nat.lt_irrefl 0)];unfold tail3;refine wpS_bind (wpS_reverse ?_);have b':SS z (setArr t (mirror (arrOf t) 0 2 ((2-0) / 2))):=⟨(mirror_perm (arrOf t) 0 2 ((2-0) / 2)).trans b.pm,b.kd,b.fl,b.pd⟩;refine wpS_bind (Pc C hn ∅ (fK 2) b' λk k1 k2=>?_);have e:k=2:=by lia
 subst e;exact wpS_pure (h _ b')
def aaB(z:Array Keyed)(st:SortSt):Prop:=(arrOf st).Perm z/\failedOf st=none/\pendingOf st=#[(0,2,0)]
def ae8{st:SortSt}{Q:Unit->SortSt->Prop}(C:Can prog w A s z)(b:SS z st)(zz:z.size=2)(h:∀ t,(arrOf t).Perm z->failedOf t=none->Q () t):wpS (model prog w) A E s sortRuns' Q st:=by
 rw[sortRuns'_eq];refine wpS_bind (wpS_get ?_);dsimp only;simp only[b.pm.size_eq,zz];refine wpS_bind (wpS_mono (wpS_forRange (I:=λx c t=>(x=0/\c=(none,0)/\SS z t)\/(1<=x/\c=(none,2)/\aaB z t)) (Q:=λc t=>c=(none,2)/\aaB z t) ?pG ?out (.inl ⟨K,b⟩)) ?aft)
 case out =>
  rintro c t (⟨x0,_,_⟩|⟨_,e,f⟩)
  ·lia
  ·exact⟨e,f⟩
 case pG =>
  rintro x c t _ xn (⟨rfl,rfl,b'⟩|⟨x1,rfl,f⟩)
  ·refine wpS_bind (MH C zz b' λt2 b2=>?_);refine wpS_bind (wpS_get ?_);have p2:=b2.pd;rw[show (pendingOf t2).back?=none by rw[p2];rfl];refine wpS_bind (wpS_modify (wpS_pure (.inr ⟨by lia,rfl,b2.pm,b2.fl,?_⟩)));show (pendingOf t2).push _=_;rw[p2];rfl
  ·exact wpS_pure ⟨rfl,f⟩
 case aft =>
  rintro c t ⟨rfl,f⟩;dsimp only;refine wpS_bind (wpS_mono (wpS_forRange (I:=λ_ c t'=>t'=t/\c=(none,())) (Q:=λc t'=>t'=t/\c=(none,())) ?_ (λ_ _ e=>e) ⟨K⟩) ?_)
  ·rintro x c t' _ _ ⟨rfl,rfl⟩;refine wpS_bind (wpS_get ?_);rw[if_pos (by rw[f.2.2];exact fK 1)];exact wpS_pure ⟨K⟩
  ·rintro c t' ⟨rfl,rfl⟩;exact wpS_pure (h _ f.1 f.2.1)
theorem Pd(v:Value):firstOfTuple' v=(do
  if (← typeOf v) != .type "tuple" then return none
  return (← Builtin.List.listItems v)[0]?):=rfl
theorem Pe{M:Model}:∀ {vs:List Value} {Q:List (Option Value)->Shared->Prop},(∀ v∈vs,uY s.heap v)->(∀ (us:List Value) (ns:List Int),IntsAre us ns->↑us=↑vs->Q (us.map some) s)->wpAny M A (vs.mapM firstOfTuple') Q E s
 | [],_,_,g=>by
  rw[List.mapM_nil];exact wpAny_pure (g [] [] .nil rfl)
 | v::vs,_,h,g=>by
  let⟨a,i,j,t1,t2,rfl,o,h1,h2,n,h3⟩:=h _ wO;rw[List.mapM_cons,Pd];refine wpAny_bind (wpAny_bind (wpAny_typeOf (T:="tuple") ⟨o,h1,h2⟩ ?_));rw[show (Value.type "tuple" != Value.type "tuple")=false from rfl,if_neg gF];exact wpAny_bind (listItems_at h1 h3 (wpAny_pure (wpAny_bind (Pe (λv hv=>h v (nI _ hv)) λus ns hu lu=>wpAny_pure (g _ _ (.cons _ t1 hu) (congrArg Nat.succ lu))))))
def Jo{M:Model}{vs:List Value}{Q:SortKind->Shared->Prop}(h:∀ v∈vs,uY s.heap v)(n:↑vs=2)(g:Q (tuples' true) s):wpAny M A (keyKind' vs.toArray) Q E s:=by
 rw[keyKind'_eq,List.mapM_toArray];refine wpAny_bind ?_;show wpAny M A (List.toArray <$> vs.mapM firstOfTuple') _ E s;rw[map_eq_pure_bind];refine wpAny_bind (Pe h λus ns hu lu=>wpAny_pure ?_);rw[if_pos (show (us.map some).toArray.all (·.isSome)=true by simp)];refine wpAny_bind (wpAny_rule ?_);rw[show (us.map some).toArray.filterMap id=us.toArray by simp,oneTypeOnly'_eq,List.mapM_toArray,mapM_typeOf_ints hu];simp only[map_pure,pure_bind]
 obtain⟨u0,u1,rfl⟩:∃ u0 u1,us=[u0,u1]:=by
  match us,lu.trans n with
  | [u0,u1],_=>exact⟨u0,u1,rfl⟩
 refine wpAny_bind (wpAny_pure (wpAny_pure ?_));rw[if_pos (by simp)];exact g
def DW{vs:List Value}{r:Value × Value}(h:r∈vs.zip vs):r.1∈vs/\r.2=r.1:=by
 let⟨i,hi,e⟩:=List.getElem_of_mem h;rw[List.getElem_zip]at e;rw[← e];exact⟨List.getElem_mem _,rfl⟩
theorem yU{a:Addr}{vs:List Value}{n:Nat}{P:Fin->Shared->Prop}(hl:s.heap.get? a=⇑(seqObj "list" vs.toArray n))(hp:∀ v∈vs,uY s.heap v)(h64:↑vs<3)
  (iS:∀ st:SortSt,(arrOf st).Perm (pairsOf vs)->P (.done (.ret .none)) { s with heap:=sortedHeap s.heap a vs ((arrOf st).map (·.2)) }) :
  wpAny (model prog w) A (Builtin.«list.sort» ⟨[↥a],[]⟩) P E s:=by
 rw[list_sort_plain];have al:a<s.heap.objs.size:=Heap.lt_size hl;refine wpAny_bind (listItems_at hl rfl ?_);refine wpAny_bind (listUpdate_at hl rfl ?_);obtain⟨c1,SV⟩:∃ c1,(s.heap.update a (Obj.mapSeq λ_=>#[])).get? a=⇑(seqObj "list" #[] c1):=⟨_,get?_update_seq hl (λ_=>#[])⟩;refine wpAny_bind (seqEpoch_at SV rfl ?_);refine wpAny_bind (wpAny_newTuple (wpAny_bind (wpAny_newList (wpAny_holding ?_))));generalize hg:((s.heap.update a (Obj.mapSeq λ_=>#[])).push (seqObj "tuple" vs.toArray 0)).push (seqObj "list" #[] 0)=g
 have ga:g.get? a=⇑(seqObj "list" #[] c1):=by
  rw[← hg,Heap.get?_push_ne _ _ _ (by rw[size_push',Heap.size_update];exact jv (Nat.lt_succ_of_lt al)),Heap.get?_push_ne _ _ _ (by rw[Heap.size_update];exact jv al)];exact SV
 have gk:∀ b o,o.cls=.type "tuple"->s.heap.get? b=⇑o->g.get? b=⇑o:=λb o oc ob=>by
  have nb:b≠a:=λz=>by
   rw[z,hl]at ob;cases ob;have q:Value.type "list"=Value.type "tuple":=oc;simp at q
  rw[← hg];exact Heap.get?_push_of_some _ (Heap.get?_push_of_some _ (by rw[Heap.get?_update_ne _ _ _ _ nb];exact ob))
 have sh:sortedHeap s.heap a vs=λout=>g.update a (Obj.mapSeq λ_=>out):=by rw[← hg];rfl
 rw[sh]at iS;dsimp only;have vz:vs.toArray.size=↑vs:=by simp
 by_cases h2:vs.toArray.size<2
 ·rw[if_pos h2,if_pos h2];refine wpAny_bind (wpAny_pure ?_);rw[StateT.run_pure];refine wpAny_bind (wpAny_pure ?_);dsimp only;refine wpAny_bind (seqEpoch_at ga rfl (wpAny_bind (listUpdate_at ga rfl ?_ (hsz2:=by rw[Array.size_map];show (pairsOf vs).size<=_;rw[pairsOf_size,sizeLine_eq];lia))));simp only[bne_self_eq_false,Bool.false_eq_true,if_false];refine wpAny_pure (iS (SortSt.mk' general' (vs.toArray.zip vs.toArray) #[] 7 none) (Array.Perm.refl _))
 ·rw[if_neg h2,if_neg h2]
  have NL:∀ v∈vs,uY g v:=λv hv=>by
   let⟨x,i,j,t1,t2,e,o,h1,h2,r⟩:=hp v hv;exact⟨x,i,j,t1,t2,e,o,gk x o h2 h1,h2,r⟩
  have v2:↑vs=2:=by lia
  refine wpAny_bind (Jo (s:={ s with heap:=g }) NL v2 ?_)
  have can:Can prog w A { s with heap:=g } (pairsOf vs):=λr hr o ho E' Q' h'=>by
   rw[pairsOf_toList]at hr ho;exact Jm (NL _ (DW hr).1) (NL _ (DW ho).1) h'
  refine wpAny_bind (wpAny_mono (ae8 (z:=pairsOf vs) (st:=SortSt.mk' (tuples' true) (vs.toArray.zip vs.toArray) #[] 7 none) (Q:=λ_ t=>(arrOf t).Perm (pairsOf vs)/\failedOf t=none) can ⟨Array.Perm.refl _,K,rfl⟩ (by rw[pairsOf_size];lia) λt a1 a2=>⟨a1,a2⟩) ?_ λ_ _ e=>e);rintro⟨⟨⟩,t⟩ s' ⟨rfl,pm,fl⟩;dsimp only;refine wpAny_bind (seqEpoch_at ga rfl (wpAny_bind (listUpdate_at ga rfl ?_ (hsz2:=by refine gX (Nat.le_of_eq ((Array.size_map ..).trans (pm.size_eq.trans (pairsOf_size _)))) ?_;rw[sizeLine_eq];lia))));rw[fl];simp only[bne_self_eq_false,Bool.false_eq_true,if_false];exact wpAny_pure (iS t pm)
end
end aaz
namespace gB
open Spec Rows L2 cX fO yT aaz
def DX(v d:Addr):HO:=.ext λh=>h.IsItemsView v d
def MJ{X:Cx}:WA X "dict.items" (λx xs H Q=>∃ (d:Addr) (kvs:List (dN × V)),x=↥d/\xs=[]/\H d=⇑(.dK kvs)/\∀ v,H v=none->Q ↥v (aN H v (DX v d))):=by
 intro ao s σ H x xs v us Q I rx rs h;let⟨d,kvs,rfl,rfl,hd,q⟩:=h;cases (show v=Value.ref d from rx);cases rs;let⟨z,hs,vs,sO,dd⟩:=FT I.hok hd;refine call_meetsIn PySem.F.slot_dict_items dd.typeIs PySem.F.entry_dict_items (PySem.F.args_dict_items_1 _) (meets_dict_items (eE X.prog X.w) d hs) ⟨⟨_,dd⟩,?_⟩;refine⟨↥s.heap.objs.size,_,I.laid (o:=DX s.heap.objs.size d) (t':=s.toks) (λb o e=>Heap.get?_push_of_some _ e) (fK _) ⟨⟨_,Heap.get?_push_size _ rfl,K⟩,⟨_,Heap.get?_push_size _ rfl⟩,λh1 h2 ⟨o,e,r⟩ k=>⟨o,k o e,r⟩⟩,rfl,q _ (I.hok.fresh (fK _))⟩
def aaC{X:Cx}{σ:L2.St}{H H':Hp}{s:Shared}{h':Heap}{t':Nat}(I:Inv X ao σ H s)(k:∀ b u,s.heap.get? b=⇑u->h'.get? b=⇑u)(o:∀ b u,s.heap.get? b=⇑u->H' b=H b)(old:∀ b u,H b=⇑u->H' b=⇑u)(new:∀ b u,H b=none->H' b=⇑u->fC X.prog X.w H' h' b u):Inv X ao σ H' { s with heap:=h',toks:=t' }:=by
 refine I.un ⟨λb u q _ _ _=>k b u q,λb u q _ _ _=>⟨u.slots,k b u q⟩,λb u q n _=>by rw[o b u q];exact n,λb u q _=>⟨u,k b u q⟩,λb xs q=>old _ _ q,λb u xs q=>old _ _ q,λb ps q=>⟨#[],by rw[old _ _ q];simp⟩⟩ λb u e=>?_
 cases eb:H b with
 | none=>exact new b u eb e
 | some v =>
  rw[old b v eb]at e;cases e;exact (I.hok b _ eb).stay (λc v _ q=>k c v q) (λc q=>old _ _ q) λc xs q=>old _ _ q
theorem Ga{H:Hp}:∀ {L:List Addr},(∀ a∈L,∃ p,rD H a p)->∃ row,bM H L row
 | [],_=>⟨[],.nil⟩
 | a::L,g=>by
  let⟨p,hp⟩:=g a wO;let⟨ps,h2⟩:=Ga (L:=L) λb hb=>g b (nI _ hb);exact⟨p::ps,.cons hp h2⟩
set_option maxHeartbeats 1000000 in
theorem BD{X:Cx}(hc:X.calm=true):jA X (.builtin "sorted") (λxs H Q=>∃ (v d:Addr) (kvs:List (dN × V)),xs=[↥v]/\H v=⇑(DX v d)/\H d=⇑(.dK kvs)/\(∀ p∈kvs,∃ i j:Int,p=(.inl i,.int j))/\↑kvs<3/\
  ∀ (l:Addr) (bs:List Addr) (row:Row) (H':Hp),H l=none->aI H H'->H' l=⇑(.lst (bs.map V.ref))->bM H' bs row->↑bs=↑kvs->Q ↥l H'):=by
 intro ao s σ H xs us Q I r h;let⟨v,d,kvs,rfl,hv,hd,hk,h64,q⟩:=h;let⟨u,rfl,rx⟩:=r.one;cases (show u=Value.ref v from rx);let⟨aaD,_⟩:=(show fC X.prog X.w H s.heap v (DX v d) from I.hok v _ hv);let⟨z,hs,vs,sO,dd⟩:=FT I.hok hd;let⟨ep,hm⟩:=dd.dictAt;have len:=↑sO;have sl:(64:Nat)<=sizeLine:=by decide
 refine Calls.call_function_entry kind_sorted plain_sorted entry_sorted (args_sorted1 _) ?_;unfold Builtin.«sorted»;refine wpAny_bind (m:=checkCount "sorted" 1 1 _) (wpAny_pure (wpAny_bind (PySem.W.kdx_collect (knd:=eE X.prog X.w) (kvs:=vs) (ep:=ep) (I.ok.hd hc) aaD hm ∅ λh' tk as kp hl hG=>wpAny_bind (wpAny_newList ?_ (by rw[cB];lia)))))
 have pin:∀ a∈as,∃ (p:Int × Int) (t1 t2:Tok),IsTup h' a #[.int p.1 t1,.int p.2 t2]:=λa ha=>by
  let⟨j,hj⟩:=List.mem_iff_getElem?.mp ha;let⟨key,k,x,e1,e2,e3⟩:=hG.pairs j a hj;let⟨p,Zl,er⟩:=rG sO e1;let⟨i,m,rfl⟩:=hk p (nJ Zl);let⟨er1,er2⟩:=er;obtain⟨t2,rfl⟩:∃ t,x=.int m t:=er2;have e2':yp k key=true:=e2;rw[← (show Sum.inl i=k from er1)]at e2';rcases eK e2' with ⟨i',t,z1,rfl⟩|⟨i',t,z1,rfl⟩
  ·cases z1;exact⟨(i,m),t,t2,_,e3,rfl,0,rfl⟩
  ·cases z1
 let⟨kf,hkf⟩:=Classical.skolem.mp (λa=>(by
  by_cases m:a∈as
  ·exact (pin a m).imp λp h _=>h
  ·exact⟨(0,0),λz=>absurd z m⟩:∃ p:Int × Int,a∈as->∃ t1 t2:Tok,IsTup h' a #[.int p.1 t1,.int p.2 t2]))
 generalize hL:h'.objs.size=l;have g:(h'.push (seqObj "list" (as.map Value.ref).toArray 0)).get? l=⇑(seqObj "list" (as.map Value.ref).toArray 0):=by rw[← hL];exact Heap.get?_push_size _ rfl
 have kp2:∀ b o,h'.get? b=⇑o->(h'.push (seqObj "list" (as.map Value.ref).toArray 0)).get? b=⇑o:=λb o e=>Heap.get?_push_of_some _ e
 have ae9:∀ v∈as.map Value.ref,uY (h'.push (seqObj "list" (as.map Value.ref).toArray 0)) v:=λv hv=>by
  let⟨a,ha,rfl⟩:=List.mem_map.mp hv;let⟨t1,t2,o,e,r⟩:=hkf a ha;exact⟨a,E,t1,t2,rfl,o,kp2 _ _ e,r⟩
 show wpAny _ _ _ _ _ { s with heap:=h'.push (seqObj "list" (as.map Value.ref).toArray 0),toks:=tk };refine wpAny_bind (wpAny_holding (wpAny_call_entry slot_list_sort ⟨_,g,rfl⟩ entry_list_sort (yU (s:={ s with heap:=h'.push (seqObj "list" (as.map Value.ref).toArray 0),toks:=tk }) g ae9 (by rw[cB];lia) λst pm=>⟨Y,wpAny_pure ⟨Y,?_⟩⟩) (args_list_sort _)));let⟨c,hcc⟩:=sortedHeap_at (out:=(arrOf st).map (·.2)) g;have pl:=Array.perm_iff_toList_perm.mp pm;rw[pairsOf_toList]at pl
 have each:∀ x∈(arrOf st).toList,∃ a∈as,x.2=↥a:=λx hx=>by
  let⟨m1,m2⟩:=DW (pl.mem_iff.mp hx);let⟨a,ha,ea⟩:=List.mem_map.mp m1;exact⟨a,ha,by rw[m2,ea]⟩
 have aaE:((arrOf st).map (·.2)).toList=((arrOf st).toList.map λx=>adr x.2).map Value.ref:=by
  rw[Array.toList_map,List.map_map];refine List.map_congr_left λx hx=>?_;let⟨a,_,e⟩:=each x hx;show x.2=Value.ref (adr x.2);rw[e];rfl
 have bl:↑((arrOf st).toList.map λx=>adr x.2)=↑kvs:=by rw[cB,pl.length_eq,List.length_zip,cB,Nat.min_self];lia
 generalize hbs:(arrOf st).toList.map (λx=>adr x.2)=bs at aaE bl
 have bm:∀ b∈bs,b∈as:=λb hb=>by
  rw[← hbs]at hb;let⟨x,hx,rfl⟩:=List.mem_map.mp hb;let⟨a,ha,e⟩:=each x hx;rw[e];exact ha
 have al:∀ {b:Addr},b∈as->b<l:=λhb=>by
  let⟨_,_,o,h1,_⟩:=hkf _ hb;rw[← hL];exact Heap.lt_size h1
 have hH':=I.hok.kept kp
 have old:∀ b o,h'.get? b=⇑o->(sortedHeap (h'.push (seqObj "list" (as.map Value.ref).toArray 0)) l (as.map Value.ref) ((arrOf st).map (·.2))).get? b=⇑o:=λb o e=>by
  have lb:b<l:=by rw[← hL];exact Heap.lt_size e
  rw[sortedHeap_old (jv lb) (by rw[Heap.size_push,hL];exact Nat.lt_succ_of_lt lb)];exact kp2 b o e
 have nas:∀ {b:Addr} {u:HO},H b=⇑u->b∉as/\b≠l:=λ{b u} e=>⟨λm=>absurd (I.hok.lt e) (Nat.not_lt.mpr (gG (hG.above b m))),λy=>by have:=hH'.lt e;rw[hL,y]at this;exact Nat.lt_irrefl _ this⟩
 have hln:H l=none:=by
  cases e:H l with
  | none=>rfl
  | some u=>exact absurd rfl (nas e).2
 let H':Hp:=λb=>if b=l then some (.lst (bs.map V.ref)) else if b∈as then some (.tup [.int (kf b).1,.int (kf b).2]) else H b
 have ho:∀ b,b≠l->b∉as->H' b=H b:=λb n m=>by show (if b=l then _ else if b∈as then _ else H b)=_;rw[if_neg n,if_neg m]
 have hl':H' l=⇑(.lst (bs.map V.ref)):=if_pos rfl;have ha':∀ b∈as,H' b=⇑(.tup [.int (kf b).1,.int (kf b).2]):=λb m=>by show (if b=l then _ else if b∈as then _ else H b)=_;rw[if_neg (jv (al m)),if_pos m]
 have same:aI H H':=λb u e=>by rw[ho b (nas e).2 (nas e).1];exact e
 let⟨row,Jp⟩:=Ga (H:=H') (L:=bs) λb hb=>⟨_,ha' b (bm b hb)⟩;refine⟨↥l,H',aaC (s:=s) (t':=tk) I (λb o e=>old b o (kp b o e)) (λb o e=>?_) same (λb u n e=>?_),rfl,q l bs row H' hln same hl' Jp bl⟩
 ·have lb:b<l:=by rw[← hL];exact Heap.lt_size (kp b o e)
  exact ho b (jv lb) λm=>absurd (Heap.lt_size e) (Nat.not_lt.mpr (gG (hG.above b m)))
 ·by_cases y:b=l
  ·subst y;rw[hl']at e;cases e;exists by rw[cB];lia,_,c,C0 bs;rw[hcc,← aaE]
  ·by_cases m:b∈as
   ·rw[ha' b m]at e;cases e;let⟨t1,t2,o,g1,g2,n',g3⟩:=hkf b m;exact⟨(by show 2<=sizeLine;decide),[.int (kf b).1 t1,.int (kf b).2 t2],.cons ⟨t1,rfl⟩ (.cons ⟨t2,rfl⟩ .nil),o,old _ _ g1,g2,n',g3⟩
   ·rw[ho b y m,n]at e;cases e
end gB
set_option Elab.async false
set_option linter.all false
set_option maxRecDepth 100000
namespace gB
open L2 cX fO yT Xb
structure Nms(mg:Str->Option Value):Prop where
 gg:mg "len"=none
 iR:mg "list"=none
 Lj:mg "tuple"=none
 U9:mg "int"=none
 Jq:mg "bool"=none
 Va:mg "str"=none
 jb:mg "range"=none
 aaF:mg "zip"=none
 dG:mg "isinstance"=none
 Vb:mg "sum"=none
 Gb:mg "min"=none
 Ax:mg "max"=none
 aaG:mg "all"=none
 Ge:mg "sorted"=none
 oq:∀ f,mg "size"=⇑↥f->mg "size_spans"=⇑↥f
 rJ:∀ f,mg "shown"=⇑↥f->mg "shown_weave"=⇑↥f
section
variable {P:Program} {w:World} {K:Frag} {mg:Str->Option Value} {zt:Heap}
theorem Jr:aF ["_law_script"] ["_law_script"] (az w9):=eO
structure Gbs(mg:Str->Option Value):Prop where
 s:∃ t,mg "MOST_SHEETS"=⇑(.int 40 t)
 w:∃ t,mg "MOST_WEIGHT"=⇑(.int 200 t)
 h:∃ t,mg "HIDDEN"=⇑(.str "#" t)
structure Ds(K:Frag)(mg:Str->Option Value)(aY:Nat->Addr)(bf:Nat->FuncData)(C CS CW CB CT CD:Addr):Prop where
 T:Nms mg
 G:Gbs mg
 aM:ClsAt K mg "Library" C (aY 49)
 cN:ClsAt K mg "Shelf" CS (aY 33)
 gU:ClsAt K mg "Well" CW (aY 44)
 qf:ClsAt K mg "Blots" CB (aY 9)
 ue:ClsAt K mg "Ties" CT (aY 42)
 vS:ClsAt K mg "Dues" CD (aY 43)
 j7:fP K CS "states"
 oN:fP K CS "openings"
 uT:fP K CW "signs"
 sD:fP K CW "owners"
 oO:fP K CW "pourings"
 sE:fP K CB "stains"
 xu:fP K CT "given"
 zY:fP K CT "pairs"
 Cy:fP K CD "sums"
 vI:fP K C "well"
 fQ:fP K C "shelf"
 xx:fP K C "blots"
 zZ:fP K C "knots"
 Fy:fP K C "dues"
 Fz:fP K C "book"
 dq0:bZ K mg "_law_src" w9 ["_law_script"] (aY 0) (bf 0)
 C4:bZ K mg "_law_next" uB Zd (aY 1) (bf 1)
 dq2:bZ K mg "_law_whole" qY ["_law_found"] (aY 2) (bf 2)
 Xg:bZ K mg "_law_same" uC ["_law_found","_law_due"] (aY 3) (bf 3)
 Vc:bZ K mg "plain" IS ["row"] (aY 4) (bf 4)
 Xh:bZ K mg "size" KU ["row"] (aY 5) (bf 5)
 YR:bZ K mg "check_places" nM zl4 (aY 6) (bf 6)
 Xi:bZ K mg "pieces" DF zl4 (aY 7) (bf 7)
 dq8:bZ K mg "part" OD zl4 (aY 8) (bf 8)
 dq9:cM K CB "__init__" "Blots.__init__" kT E9 (aY 9) (bf 9)
 Xj:bZ K mg "addresses" pI ["row"] (aY 10) (bf 10)
 Xk:bZ K mg "windows" vG ["items"] (aY 11) (bf 11)
 Xl:bZ K mg "below" DG ["rows","sheets"] (aY 12) (bf 12)
 Xm:bZ K mg "way_between" pJ ["rows","start","goal"] (aY 13) (bf 13)
 aaH:bZ K mg "ring" OE YG (aY 14) (bf 14)
 aaI:bZ K mg "item_weight" pK ["item","weights"] (aY 15) (bf 15)
 aaJ:bZ K mg "weights_below" jE ["rows","sheets"] (aY 16) (bf 16)
 Xn:bZ K mg "item_row" xg ["item","views"] (aY 17) (bf 17)
 Pf:bZ K mg "views_below" lQ ["rows","sheets"] (aY 18) (bf 18)
 Pg:bZ K mg "shown" IT YG (aY 19) (bf 19)
 aaK:bZ K mg "goes_on" zV ["one","other"] (aY 20) (bf 20)
 MK:bZ K mg "plain_items" pL ["items"] (aY 21) (bf 21)
 Gf:bZ K mg "inked" DH ["row"] (aY 22) (bf 22)
 Xo:bZ K mg "dealt" IU ["items","views"] (aY 23) (bf 23)
 Xp:bZ K mg "put_among" uE ["items","views","place","others"] (aY 24) (bf 24)
 SX:bZ K mg "put_items" uF ["rows","sheet","place","items"] (aY 25) (bf 25)
 Xq:bZ K mg "parted" DJ ["items","views","start","stop"] (aY 26) (bf 26)
 aaL:bZ K mg "cut_items" uG ["rows","sheet","start","stop"] (aY 27) (bf 27)
 aaM:bZ K mg "moved_items" pM ["rows","sheet","start","stop","to"] (aY 28) (bf 28)
 aaN:bZ K mg "fixed_items" pN YG (aY 29) (bf 29)
 SY:bZ K mg "ink_words" pO ["row"] (aY 30) (bf 30)
 aaO:bZ K mg "shown_deed" qZ ["deed"] (aY 31) (bf 31)
 Xr:bZ K mg "changed" zW ["state","sheet","items"] (aY 32) (bf 32)
 aaP:cM K CS "__init__" "Shelf.__init__" kU E9 (aY 33) (bf 33)
 S0:cM K CS "now" "Shelf.now" uH E9 (aY 34) (bf 34)
 Xs:cM K CS "many" "Shelf.many" rf E9 (aY 35) (bf 35)
 aaQ:cM K CS "step" "Shelf.step" rj ["self","changes"] (aY 36) (bf 36)
 DY:cM K CS "check_sheet" "Shelf.check_sheet" jg VO (aY 37) (bf 37)
 aaR:cM K CS "check_moment" "Shelf.check_moment" iO ["self","moment"] (aY 38) (bf 38)
 aaS:cM K CS "rows_then" "Shelf.rows_then" iH ["self","moment"] (aY 39) (bf 39)
 DZ:cM K CS "rows" "Shelf.rows" rm E9 (aY 40) (bf 40)
 aaT:cM K CS "row" "Shelf.row" uI VO (aY 41) (bf 41)
 aaU:cM K CT "__init__" "Ties.__init__" mw E9 (aY 42) (bf 42)
 aaV:cM K CD "__init__" "Dues.__init__" mz E9 (aY 43) (bf 43)
 aaW:cM K CW "__init__" "Well.__init__" mC E9 (aY 44) (bf 44)
 ML:cM K CW "size" "Well.size" uJ E9 (aY 45) (bf 45)
 aaX:cM K CW "pour" "Well.pour" uK ["self","hand","text"] (aY 46) (bf 46)
 aaY:cM K CW "holds" "Well.holds" ni ["self","row"] (aY 47) (bf 47)
 aaZ:bZ K mg "check_weave" pP YG (aY 48) (bf 48)
 aa0:cM K C "__init__" "Library.__init__" jF E9 (aY 49) (bf 49)
 Ph:cM K C "enter" "Library.enter" mD ["self","deed","changes"] (aY 50) (bf 50)
 Gg:cM K C "change" "Library.change" kW ["self","deed","sheet","items"] (aY 51) (bf 51)
 Xu:cM K C "many" "Library.many" nO E9 (aY 52) (bf 52)
 aa1:cM K C "begin" "Library.begin" mE ["self","deed","items"] (aY 53) (bf 53)
 Xv:cM K C "fresh" "Library.fresh" mF E9 (aY 54) (bf 54)
 afc:cM K C "ink" "Library.ink" pQ E9 (aY 55) (bf 55)
 Tc:cM K C "check_held" "Library.check_held" iP ["self","row"] (aY 56) (bf 56)
 Td:cM K C "pour" "Library.pour" nP ["self","hand","text"] (aY 57) (bf 57)
 aa2:cM K C "put" "Library.put" pR ["self","sheet","place","row"] (aY 58) (bf 58)
 MM:cM K C "shown" "Library.shown" mG VO (aY 59) (bf 59)
 aa3:cM K C "cut" "Library.cut" pS ["self","sheet","start","stop"] (aY 60) (bf 60)
 aa4:cM K C "quote" "Library.quote" mH ["self","target","place","source","start","stop"] (aY 61) (bf 61)
 aa5:cM K C "row" "Library.row" pT VO (aY 62) (bf 62)
 aa6:cM K C "window" "Library.window" kX ["self","target","place","source"] (aY 63) (bf 63)
 aa7:cM K C "fix" "Library.fix" pU VO (aY 64) (bf 64)
 aa8:cM K C "move" "Library.move" nQ ["self","sheet","start","stop","to"] (aY 65) (bf 65)
 Xw:bZ K mg "first_reaching" kZ ["holes","start"] (aY 66) (bf 66)
 aa9:bZ K mg "within" DK ["holes","address"] (aY 67) (bf 67)
 aba:cM K CB "hides" "Blots.hides" pV zl2 (aY 68) (bf 68)
 Xx:cM K CW "check_address" "Well.check_address" iQ zl2 (aY 69) (bf 69)
 abb:cM K CW "sign" "Well.sign" uL zl2 (aY 70) (bf 70)
 abc:cM K C "veiled" "Library.veiled" i6 ["self","row","veil"] (aY 71) (bf 71)
 abd:cM K C "text" "Library.text" nR VO (aY 72) (bf 72)
 abe:bZ K mg "spread" DL ["row"] (aY 73) (bf 73)
 abf:bZ K mg "left_over" uM ["start","stop","holes"] (aY 74) (bf 74)
 abg:bZ K mg "without" vH ["row","other"] (aY 75) (bf 75)
 abh:cM K CB "row" "Blots.row" uD E9 (aY 76) (bf 76)
 abi:cM K CW "hand" "Well.hand" uN zl2 (aY 77) (bf 77)
 abj:cM K C "hidden" "Library.hidden" lg E9 (aY 78) (bf 78)
 abk:cM K C "poured_by" "Library.poured_by" jh ["self","row"] (aY 79) (bf 79)
 abl:cM K CT "tie" "Ties.tie" xh ["self","one","other"] (aY 80) (bf 80)
 abm:cM K CD "due" "Dues.due" xj ["self","hand"] (aY 81) (bf 81)
 abn:cM K CD "pay" "Dues.pay" xm ["self","hand","many"] (aY 82) (bf 82)
 abo:cM K C "tie" "Library.tie" pW ["self","one","other"] (aY 83) (bf 83)
 abp:cM K C "read" "Library.read" nV VO (aY 84) (bf 84)
 Te:bZ K mg "_law_world" nj [] (aY 85) (bf 85)
 Xy:bZ K mg "_law_keep" uO ["_law_world_here","_law_rows"] (aY 86) (bf 86)
 Xz:bZ K mg "_law_swap" uP zl6 (aY 87) (bf 87)
 abq:bZ K mg "_law_spell" rA ["_law_row"] (aY 88) (bf 88)
 Js:bZ K mg "_law_show" uQ YH (aY 89) (bf 89)
 XA:bZ K mg "_law_reached" nX YH (aY 90) (bf 90)
 XC:bZ K mg "_law_pieces" pX zl8 (aY 91) (bf 91)
 Pj:bZ K mg "_law_put" xo zl9 (aY 92) (bf 92)
 XD:bZ K mg "_law_cut" xq Ze (aY 93) (bf 93)
 XE:bZ K mg "_law_weighed" nY YH (aY 94) (bf 94)
 abr:bZ K mg "_law_items_of" mJ ["_law_entries"] (aY 95) (bf 95)
 abt:bZ K mg "_law_fits" pY YH (aY 96) (bf 96)
 abu:bZ K mg "_law_after" rB Zf (aY 97) (bf 97)
 afd:cM K C "back" "Library.back" tW ["self","sheet","moment"] (aY 98) (bf 98)
 abv:bZ K mg "_law_done" uR ["_law_house","_law_deed_here"] (aY 99) (bf 99)
 Vd:bZ K mg "_law_ink_row" nZ VP (aY 100) (bf 100)
 Ve:bZ K mg "_law_move_by" oh ["_law_src_here","_law_sheet","_law_room"] (aY 101) (bf 101)
 Vf:bZ K mg "_law_draw" uS VP (aY 102) (bf 102)
 Vg:bZ K mg "above" zX YG (aY 103) (bf 103)
 Vh:bZ K mg "_law_begin" nv Zg (aY 104) (bf 104)
 Lk:bZ K mg "_law_shows" ny ["_law_house"] (aY 105) (bf 105)
 Vi:bZ K mg "_law_quiet" rC ["_law_src_here","_law_house"] (aY 106) (bf 106)
def nth{α:Type}:List α->α->Nat->α
 | [],d,_=>d
 | a::_,_,0=>a
 | _::l,d,n+1=>nth l d n
theorem Jt:‹(1,0,["_law_script"],(UW K))›:=λD=>by
 specialize eS D.dq0.F Jr;let⟨a,ns,rfl,hS,k⟩:=h;exists _,(au (aJ (bL (aa (d9 eX rfl D.T.iR tL (aa (gZ lP (pv 0) lO (iG ay)) ah)) (aa ay (aa ay (aa ay ah)))))));refine⟨Y,Y,a,Y,hS,λp hp=>?_⟩;refine⟨p,Y,.inl (bG.of af),λc hc=>?_⟩;refine⟨DU,λl hl=>?_⟩;let⟨ms,em⟩:=OR ns none (some 63);have HX:c≠l:=aA (H:=aN (aN H p _) c _) af hl;have s1:aI H (aN H p (.lst (ki (ns.map V.int) none (some 63)))):=ak hp _;have s2:=s1.trans (ak hc (.lst (ki (ns.map V.int) none (some 63))));refine k l c _ ⟨HX,ms,0,0,1,af,?_,by decide,by decide,by decide⟩ (s2.trans (ak hl _)) (s2.free hl) (s1.free hc);rw[aL HX,af,em]
theorem nC:aF ["_law_src_here","_law_base","_law_cell","_law_digit"] ["_law_src_here","_law_base"] (az uB):=eO
theorem iy:‹(1,1,["_law_src_here","_law_base"],xC)›:=λD=>by
 specialize eS D.C4.F nC;let⟨l,c,b,rfl,S,hb0,DV,k⟩:=h;exists _,(aj (IZ (t':=WM) (bO (aV fY (aO bu (pv 0) ay) ay (bh _)) (aj (aZ (i:=2) nC.nd ay) (aj (IZ (t':=WN) (bO (aV jT (aO bu (pv 0) ay) (gp D.T.gg (aO bu (pv 0) ay)) (bh _)) (aj (aZ (i:=2) nC.nd (aO bu (aO bu (pv 0) ay) (aO bu (pv 0) ay))) (au (mj (bz dH (aO bu (pv 0) ay) ay) (pF (pv 0) ay jB)))) br) ?b2) (aj (mj (bz zL (bz dH (bz dH (bz Ir (aO bu (pv 0) ay) ay) (bz zL (pv 2) ay)) ay) ay) (pF (pv 0) ay jB)) (au (bO (aV UQ (pv 2) (bz N9 ay ay) (bh _)) (au (mj (pv 2) (pF (pv 0) ay jB))) br))))) br) ?b1) (aj (bO (aV Fq (aO bu (pv 0) ay) ay (bh _)) (aj (aZ (i:=3) nC.nd (bz zL (aO bu (pv 0) ay) (pv 1))) (aj (mj (bz Aa (aO bu (pv 0) ay) (pv 1)) (pF (pv 0) ay jB)) (au (aJ (pv 3))))) br) (au (aJ (bz zL (bz Aa (bz zL (bz Ir (aO bu (pv 0) ay) ay) ay) ay) (pv 1))))))
 case b2 =>
  rintro D σ H ⟨l,c,b,rfl,⟨HX,ns,i,d,r,hl,hc,hi,vt,hr1⟩,k⟩;exists Y,l,Q,K,bG.of hl,WL,Y,l,Q,K,bG.of hl,aab,c,Y,.inl (bG.of hc),Z,Y;refine cR (λc2=>?_) (λc2=>?_)
  ·have c3:i<(↑ns:Int):=by
    have z:=of_decide_eq_true c2;rwa [cB]at z
   let⟨v,hv⟩:=Sk hi c3;exists Y,l,Q,K,bG.of hl,aab,Y,l,Q,K,bG.of hl,WL,c,Q,K,bG.of hc,hv;exists Y,l,Q,K,bG.of hl,WL,Z,Y,l,E,1,K,hl,rfl;exact k v _ ⟨HX,ns,i+1,d,r,af,by rw[aL HX];exact hc,by lia,vt,hr1⟩ λa ha=>aL ha
  ·exact k 7 H ⟨HX,ns,i,d,r,hl,hc,hi,vt,hr1⟩ λa _=>rfl
 case b1 =>
  rintro D σ H ⟨l,c,b,rfl,S,k⟩;let⟨HX,ns,i,d,r,hl,hc,hi,vt,hr1⟩:=id S;exists Y,l,Q,K,bG.of hl,Sg,Z,Y;refine cR (λc1=>?_) (λc1=>?_)
  ·refine⟨l,c,b,rfl,S,λcell H1 S1 k1=>?_⟩;let⟨_,ns1,i1,d1,r1,HW,SV,hi1,Ju,Jv⟩:=id S1;exists Y,l,Q,K,bG.of HW,aac,Z,.inl ⟨by lia,by lia⟩,Y,Z,(by show (0:Int)<998244353;decide),Z,Z,Z,(by show (0:Int)<2147483647;decide),Y,l,E,3,K,HW,rfl;exists Y,Z,⟨by decide,by decide,by decide⟩,Z,Y;have b0:0<=(r1*48271+cell % 998244353+1) % 2147483647:=Int.emod_nonneg _ (by decide);have b1:(r1*48271+cell % 998244353+1) % 2147483647<2147483647:=Int.emod_lt_of_pos _ (by decide);refine cR (λc2=>?_) (λc2=>?_)
   ·exists Y,Y,l,E,2,K,af,rfl;refine k _ _ ⟨HX,ns1,i1,cell,_,af,?_,hi1,b0,b1⟩ λa ha=>?_
    ·rw[aL HX,aL HX];exact SV
    ·rw[aL ha,aL ha];exact k1 a ha
   ·refine k _ _ ⟨HX,ns1,i1,d1,_,af,?_,hi1,b0,b1⟩ λa ha=>?_
    ·rw[aL HX];exact SV
    ·rw[aL ha];exact k1 a ha
  ·exact k none H S λa _=>rfl
 refine⟨l,c,b,rfl,S,λcell H1 S1 k1=>?_⟩;let⟨HX,ns,i,d,r,hl,hc,hi,vt,hr1⟩:=S1;exists Y,l,Q,K,bG.of hl,Sg,Z,Y;refine cR (λc1=>?_) (λc1=>?_)
 ·exists Y,l,Q,K,bG.of hl,Sg,Y,Z,hb0;exists Y,l,Q,K,bG.of hl,Sg,Y,Z,⟨hb0,DV⟩,Y,l,E,2,K,hl,rfl;exists Y;refine k (d % b) _ (Int.emod_nonneg _ ∅) (Int.emod_lt_of_pos _ hb0) ⟨HX,ns,i,d / b,r,af,?_,hi,vt,hr1⟩ λa ha=>?_
  ·rw[aL HX];exact hc
  ·rw[aL ha];exact k1 a ha
 ·exists Y,l,Q,K,bG.of hl,aac,Z,.inl ⟨by lia,by lia⟩,Z,(by show (0:Int)<2147483399;decide),Z,⟨by decide,by decide⟩,Y,Z,hb0;exact k _ _ (Int.emod_nonneg _ ∅) (Int.emod_lt_of_pos _ hb0) ⟨HX,ns,i,d,r,hl,hc,hi,vt,hr1⟩ k1
theorem D0:aF ["_law_found"] ["_law_found"] (az qY):=eO
theorem rK:aF ["_law_found","_law_due","_law_one","_law_other"] ["_law_found","_law_due"] (az uC):=eO
theorem D3:‹(1,2,["_law_found"],Lb)›:=λD=>by
 specialize eS D.dq2.F D0;let⟨i,rfl,k⟩:=h;exists _,(au (aJ (uw (bY dR rfl D.T.dG yO (aa (pv 0) (aa (qv rfl D.T.U9 PyProof.Rows.boot_int) ah))) (wV (Wa (bY dR rfl D.T.dG yO (aa (pv 0) (aa (qv rfl D.T.Jq PyProof.Rows.boot_bool) ah))))))));exact⟨Y,Q,Y,kg.int i,aaf K,Y,iX ⟨Y,Q,Y,kg.int i,aae K,Y,k⟩⟩
def BE(D:Ds K mg aY bf C CS CW CB CT CD){n:Nat}(Gh:bq P w K mg zt cO 1 (aY 2) (bf 2) ["_law_found"] Lb)(jk:bq P w K mg zt cO (n+1) (aY 3) (bf 3) ["_law_found","_law_due"] (Ad n)):bq P w K mg zt cO (n+2) (aY 3) (bf 3) ["_law_found","_law_due"] (Ad (n+1)):=by
 refine D.Xg.F.ok rK (λvs H Q E h=>?_) (λcU A zn s H vs Q E hr h=>?_)
 ·let⟨x,y,rfl,_⟩:=h;rfl
 let⟨x,y,rfl,h,k⟩:=h;exists _,(aj (bO (zJ (N5 (pv 1))) (au (aJ (V0 (N5 (pv 0))))) br) (aj (bO (jz (bY dR rfl D.T.dG yO (aa (pv 1) (aa (qv rfl D.T.Jq PyProof.Rows.boot_bool) ah)))) (au (aJ (uw (bY dR rfl D.T.dG yO (aa (pv 0) (aa (qv rfl D.T.Jq PyProof.Rows.boot_bool) ah))) (wV (lN dY (pv 0) (pv 1) (bh _)))))) br) (aj (bO (jz (bY dR rfl D.T.dG yO (aa (pv 1) (aa (qv rfl D.T.U9 PyProof.Rows.boot_int) ah)))) (au (aJ (uw (aH D.dq2 Gh hr (aa (pv 0) ah)) (wV (lN dY (pv 0) (pv 1) (bh _)))))) br) (aj (bO (jz (bY dR rfl D.T.dG yO (aa (pv 1) (aa (qv rfl D.T.Va PyProof.Rows.boot_str) ah)))) (au (aJ (uw (bY dR rfl D.T.dG yO (aa (pv 0) (aa (qv rfl D.T.Va PyProof.Rows.boot_str) ah))) (wV (lN dY (pv 0) (pv 1) (bh _)))))) br) (aj (bO (PW.pt (Kz (aV Cn (bY dR rfl D.T.dG yO (aa (pv 1) (aa (qv rfl D.T.iR tL) ah))) (bY dR rfl D.T.dG yO (aa (pv 0) (aa (qv rfl D.T.iR tL) ah))) (bh _)) (Ih (aV Cn (bY dR rfl D.T.dG yO (aa (pv 1) (aa (qv rfl D.T.Lj PyProof.Rows.boot_tuple) ah))) (bY dR rfl D.T.dG yO (aa (pv 0) (aa (qv rfl D.T.Lj PyProof.Rows.boot_tuple) ah))) (bh _))))) (au (aJ ng)) br) (aj (bO (aV Cn (gp D.T.gg (pv 0)) (gp D.T.gg (pv 1)) (bh _)) (au (aJ ng)) br) (aj (dX PassesOwn.never rfl (WJ rfl D.T.aaF (aa (pv 0) (aa (pv 1) ah))) (kQ (n:=2) rfl (bP (bQ (i:=2) rK.nd) (bP (bQ (i:=3) rK.nd) fX))) (au (bO (jd (jz (aH D.Xg jk hr (aa (pv 2) (aa (pv 3) ah))))) (au (aJ ng)) br))) (au (aJ ng)))))))));have kk:=k H (aI.refl H);rcases h with ⟨hf,rfl⟩|⟨kd,a,b,xs,ys,rfl,rfl,h1,h2,hl,hi⟩
 ·cases x with
  | fT =>
   refine⟨Y,Y,cR (λ_=>?_) (λc=>absurd (decide_eq_true rfl) c)⟩;exact⟨Y,tt rfl kk⟩
  | bl v =>
   refine⟨Y,Y,cR (λc=>absurd (of_decide_eq_true c) (λz=>nomatch z)) (λ_=>?_)⟩;refine⟨Y,Q,Y,kg.bl v,aad K,Y,iX ?_⟩;exact⟨Y,Q,Y,kg.bl v,aad K,Y,iX ⟨Y,Y,rfl,tt rfl kk⟩⟩
  | int i =>
   refine⟨Y,Y,cR (λc=>absurd (of_decide_eq_true c) (λz=>nomatch z)) (λ_=>?_)⟩;refine⟨Y,Q,Y,kg.int i,aae K,Y,eL ?_⟩;refine⟨Y,Q,Y,kg.int i,aaf K,Y,iX ?_⟩;exact⟨Y,i,rfl,Y,iX ⟨Y,Y,rfl,tt rfl kk⟩⟩
  | str v =>
   refine⟨Y,Y,cR (λc=>absurd (of_decide_eq_true c) (λz=>nomatch z)) (λ_=>?_)⟩;refine⟨Y,Q,Y,kg.str v,aex K,Y,eL ?_⟩;refine⟨Y,Q,Y,kg.str v,aey K,Y,eL ?_⟩;refine⟨Y,Q,Y,kg.str v,aag K,Y,iX ?_⟩;exact⟨Y,Q,Y,kg.str v,aag K,Y,iX ⟨Y,Y,rfl,tt rfl kk⟩⟩
  | _=>cases hf
 ·refine⟨Y,Y,cR (λc=>absurd (of_decide_eq_true c) (λz=>nomatch z)) (λ_=>?_)⟩;refine⟨Y,Q,Y,h2.ty,aeH K kd,Y,eL ?_⟩;refine⟨Y,Q,Y,h2.ty,aeI K kd,Y,eL ?_⟩;refine⟨Y,Q,Y,h2.ty,aeJ K kd,Y,eL ?_⟩;refine⟨Y,Q,Y,h2.ty,aai K kd,Y,Q,Y,h1.ty,aai K kd,rfl,Y,Cw rfl ?_⟩;refine⟨Y,Q,Y,h2.ty,aaj K kd,Y,Q,Y,h1.ty,aaj K kd,rfl,Y,Cw rfl ?_⟩;refine⟨Y,a,Y,h1.or,Y,b,Y,h2.or,rfl,Y,Cw (by rw[hl]) ?_⟩;refine⟨Y,Y,kd,a,b,xs,ys,rfl,h1.sq,h2.sq,Se (λi σ H2=>∃ u v,σ=[⇑↥a,⇑↥b,u,v]/\aI H H2) hl ⟨none,none,rfl,aI.refl H⟩ (by rintro i σ H2 _ ⟨_,_,_,s⟩;exact⟨(h1.same s).sq,(h2.same s).sq⟩) ?_ ?_⟩
  ·rintro i u v p σ H2 eu ev hp ⟨_,_,rfl,s⟩;exists p,Y,cW.of af,rfl,u,[v],rfl,v,[],K;have s2:=s.trans (ak hp (.tup [u,v]));refine⟨Y,Y,u,v,rfl,Eqv.same s2 (hi i u v eu ev),λH4 s4=>⟨Y,eL ?_⟩⟩;exact⟨E,rfl,s2.trans s4⟩
  ·rintro σ H2 ⟨_,_,rfl,s⟩;exact k H2 s
theorem yF(D:Ds K mg aY bf C CS CW CB CT CD):∀ n:Nat,bq P w K mg zt cO (n+1) (aY 3) (bf 3) ["_law_found","_law_due"] (Ad n)
 | 0=>by
  have no:∀ vs H Q E,¬ Ad 0 vs H Q E:=λvs H Q E h=>by
   let⟨x,y,_,h,_⟩:=h;exact h
  exact⟨λvs H Q E h=>absurd h (no vs H Q E),λA zn s H args us vs Q E _ _ _ _ h=>absurd h (no vs H Q E)⟩
 | n+1=>BE D (D3 D) (yF D n)
theorem zC:aF ["row","told","start","stop"] ["row"] (az IS):=eO
theorem mP:‹(1,4,["row"],Sj)›:=λD=>by
 specialize eS D.Vc.F zC;let⟨r,row,rfl,⟨as,hr1,hp⟩,dJ,k⟩:=h;refine⟨_,(aj (aZ (i:=1) zC.nd (bL ah)) (aj (dX PassesOwn.never rfl (cu (pv 0)) (kQ (n:=2) rfl (bP (bQ (i:=2) zC.nd) (bP (bQ (i:=3) zC.nd) fX))) (aj (bO (aV dY (pv 2) (pv 3) (bh _)) (au yr) br) (au (bO (PW.pt (kO (mq (pv 1) (λ_=>rfl)) (j6 (aV dY (aO aW (aO bu (pv 1) (gv d7 ay)) ay) (pv 2) (bh _))))) (au (mj (cH (aa (aO aW (aO bu (pv 1) (gv d7 ay)) ay) (aa (pv 3) ah))) (pF (pv 1) (gv d7 ay) jB))) (au (aT (dQ qF jV jW bS (pv 1) (aa (cH (aa (pv 2) (aa (pv 3) ah))) ah)))))))) (au (aJ (pv 1))))),?_⟩;refine⟨gQ,λq hq=>?_⟩;have s0:aI H (aN H q (.lst [])):=ak hq _;refine⟨Y,r,rfl,⟨_,bG.of (s0 _ _ hr1)⟩,dB (K:=K) (a:=r) (xs:=as.map V.ref) (λi σ H2=>∃ (bs:List Addr) (u v:Option V),σ=[⇑↥r,⇑↥q,u,v]/\H2 q=⇑(.lst (bs.map V.ref))/\bM H2 bs ((row.take i).foldl ef [])/\aI H H2) ⟨[],none,none,rfl,af,.nil,s0⟩ (by rintro i σ H2 _ ⟨_,_,_,_,_,_,s⟩;exact bG.of (s _ _ hr1)) ?_ ?_⟩
 ·rintro i x σ H2 hi ⟨bs,u,v,rfl,eN,hb,s⟩;rw[mY]at hi;let⟨a,ea,rfl⟩:=Option.map_eq_some_iff.mp hi;let⟨⟨st,en⟩,ep,ha⟩:=hp.get ea;have step:=Mu (f:=ef) ep
  have bl:↑bs<sizeLine:=by
   have z:=hb.len;have z2:=FI (row.take i) [];rw[gr]at z2;exact aQ (by simp only[lM]at z2;lia)
  exists a,Y,cW.of (s _ _ ha),rfl,E,rfl,Z;refine⟨Y,Y,rfl,Y,cR (λc=>?_) (λc=>?_)⟩
  ·have e:st=en:=V.int.inj (of_decide_eq_true c);refine⟨bs,E,rfl,eN,?_,s⟩;rw[step,ef,if_pos e];exact hb
  ·have e:¬ st=en:=λz=>c (decide_eq_true (congrArg V.int z));rw[ef,if_neg e]at step;rcases qG ((row.take i).foldl ef []) with hn|⟨rw0,q0,hn⟩
   ·rw[hn]at hb step;have hbs:bs=[]:=List.eq_nil_of_length_eq_zero hb.len;subst hbs;refine⟨Y,false,.inl ⟨_,bG.of eN,rfl⟩,eL (eL ?_)⟩;refine⟨Y,.inl ⟨rfl,_,bG.of eN⟩,Y,Y,oX,λt ht=>⟨q,Z,ak ht _ _ _ eN,(by show 0<sizeLine;decide),?_⟩⟩;let⟨g1,g2,g3⟩:=OT (st:=st) (en:=en) hq s eN hb ht;refine⟨[]++[t],E,rfl,g1,?_,g3⟩;rw[step,oQ];exact g2
   ·rw[nK]at hn;rw[hn]at hb step;let⟨cs,a0,rfl,hc,Ll⟩:=hb.split;have Pk:H2 q=⇑(.lst (cs.map V.ref++[↥a0])):=by rw[eN,gE];rfl
    refine⟨Y,true,.inl ⟨_,bG.of Pk,by simp⟩,iX ?_⟩;refine⟨Y,Y,q,Q,K,bG.of Pk,gx _ _,a0,Q,K,cW.of Ll,aev,Y,rfl,Y,cR (λc2=>?_) (λc2=>?_)⟩
    ·have e2:q0.2=st:=V.int.inj (of_decide_eq_true c2);refine⟨Y,Y,q,Q,K,bG.of Pk,gx _ _,a0,Q,K,cW.of Ll,aeu,Y,oX,λt ht=>?_⟩;exists Y,Y,q,E,↑cs,K,ak ht _ _ _ Pk,WS cs a0;let⟨g1,g2,g3⟩:=turned (st:=q0.1) (en:=en) hq s Pk hc ht;refine⟨cs++[t],E,rfl,g1,?_,g3⟩;rw[step,oR _ e2];exact g2
    ·have e2:¬ q0.2=st:=λz=>c2 (decide_eq_true (congrArg V.int z));refine⟨Y,.inl ⟨rfl,_,bG.of eN⟩,Y,Y,oX,λt ht=>⟨q,Z,ak ht _ _ _ eN,(by rw[cB];exact bl),?_⟩⟩;let⟨g1,g2,g3⟩:=OT (st:=st) (en:=en) hq s eN hb ht;refine⟨cs++[a0]++[t],E,rfl,g1,?_,g3⟩;rw[step,oS _ e2];exact g2
 ·rintro σ H2 ⟨bs,u,v,rfl,eN,hb,s⟩;refine⟨Y,k q H2 ⟨bs,eN,?_⟩ s hq⟩;rw[cB,hp.len,gH]at hb;exact hb
theorem XF:aF ["row"] ["row"] (az KU):=eO
theorem D4:‹(1,5,["row"],WT)›:=λD=>by
 specialize eS D.Xh.F XF;let⟨r,row,rfl,⟨as,hr1,hp⟩,dJ,k⟩:=h;refine⟨_,(au (aJ (bY (FE rfl) rfl D.T.Vb PyProof.Rows.boot_sum (aa (gI (N:=["start","stop"]) (jI (sc:=az KU) (NX:=["row"]) (jx:=[none,none]) rfl rfl rfl nofun nofun rfl nofun rfl nofun) rfl (cu (pv 0)) (λ_ _ _ _ _ _=>(sR (n:=2) rfl (bP (bQ (i:=0) (show List.Nodup (["start","stop"]:List Str) by decide +kernel)) (bP (bQ (i:=1) (show List.Nodup (["start","stop"]:List Str) by decide +kernel)) fX)))) (λ_ _ _ _ _ _=>fZ) (λ_ _ _ _ _ _=>(bz cY (pv 1) (pv 0)))) ah)))),?_⟩;refine⟨Y,r,rfl,⟨_,bG.of hr1⟩,λacc cP=>fE (K:=K) (a:=r) (xs:=as.map V.ref) (λi σ H2=>∃ u v:Option V,σ=[u,v]/\H2 acc=⇑(.lst (((row.take i).map λp=>p.2-p.1).map V.int))/\aI H H2) ⟨none,none,rfl,af,ak cP _⟩ (by rintro i σ H2 _ ⟨_,_,_,_,s⟩;exact bG.of (s _ _ hr1)) ?_ ?_⟩
 ·rintro i x σ H2 hi ⟨u,v,rfl,ha,s⟩;rw[mY]at hi;let⟨a,ea,rfl⟩:=Option.map_eq_some_iff.mp hi;let⟨⟨st,en⟩,ep,hpa⟩:=hp.get ea;refine⟨a,Y,cW.of (s _ _ hpa),rfl,E,rfl,Z,yes (iX ?_)⟩;refine⟨Y,Y,Z,_,ha,?_,E,rfl,?_,bH cP s (aG acc _ _)⟩
  ·rw[cB,cB,gr];exact aQ ∅
  ·rw[af,take_snoc ep,gE,gE];rfl
 ·rintro σ H2 ⟨u,v,rfl,ha,s⟩;rw[cB,hp.len,gH]at ha;exact⟨acc,Y,bG.of ha,k H2 s⟩
class inductive Pn
 | mk (r:Addr) (row:Row) (a b:Int) (_:vs=[↥r,.int a,.int b]) (_:bW H r row) (_:↑row<=1000000) (_:Sw a b (i7 row)) (_:∀ H',aI H H'->Q .fT H')
theorem Ay:aF ["row","start","stop"] ["row","start","stop"] (az nM):=eO
theorem gK:‹(2,6,["row","start","stop"],Pn)›:=λD=>by
 specialize eS D.YR.F Ay;let⟨r,row,a,b,rfl,R,hl,z,k⟩:=h;exists _,(au (bO (jd (Mw fY fY fY ay (pv 1) (pv 2) (fO.vR D.Xh (D.T.oq _ D.Xh.m) (D4 D) hr (aa (pv 0) ah)))) (au iV) br));exists Y,Z,Y;rw[decide_eq_true z.1];refine cR (λ_=>?_) (λc=>absurd rfl c);exists Y,Z,Y;rw[decide_eq_true z.2.1];refine cR (λ_=>?_) (λc=>absurd rfl c);refine⟨Y,r,row,rfl,R,hl,λH1 s1=>⟨Z,Y,?_⟩⟩;rw[decide_eq_true z.2.2];exact eL (k H1 s1)
theorem kB:aF ["row","start","stop","told","ahead","first","last","low","high"] ["row","start","stop"] (az DF):=eO
theorem sV:‹(1,7,["row","start","stop"],FP)›:=λD=>by
 specialize eS D.Xi.F kB;let⟨r,row,a,b,rfl,⟨as,hr1,hp⟩,dJ,k⟩:=h;exists _,(aj (aZ (i:=3) kB.nd (bL ah)) (aj (aZ (i:=4) kB.nd ay) (aj (dX PassesOwn.never rfl (cu (pv 0)) (kQ (n:=2) rfl (bP (bQ (i:=5) kB.nd) (bP (bQ (i:=6) kB.nd) fX))) (aj (aZ (i:=7) kB.nd (bY (lX rfl) rfl D.T.Ax PyProof.Rows.boot_max (aa (bz cY (pv 1) (pv 4)) (aa ay ah)))) (aj (aZ (i:=8) kB.nd (bY (oG rfl) rfl D.T.Gb PyProof.Rows.boot_min (aa (bz cY (pv 2) (pv 4)) (aa (bz cY (pv 6) (pv 5)) ah)))) (aj (bO (aV jT (pv 7) (pv 8) (bh _)) (au (aT (dQ qF jV jW bS (pv 3) (aa (cH (aa (bz dH (pv 5) (pv 7)) (aa (bz dH (pv 5) (pv 8)) ah))) ah)))) br) (au (ux (i:=4) kB.nd rfl (Or.inl rfl) (bz cY (pv 6) (pv 5)) Io)))))) (au (aJ (pv 3))))));refine⟨gQ,λq hq=>?_⟩;have s0:aI H (aN H q (.lst [])):=ak hq _;refine⟨Y,r,rfl,⟨_,bG.of (s0 _ _ hr1)⟩,dB (K:=K) (a:=r) (xs:=as.map V.ref) (λi σ H2=>∃ (bs:List Addr) (t:Int) (u v x y:Option V),σ=[⇑↥r,⇑(.int a),⇑(.int b),⇑↥q,⇑(.int t),u,v,x,y]/\t=i7 (row.take i)/\H2 q=⇑(.lst (bs.map V.ref))/\bM H2 bs (kM a b 0 (row.take i))/\aI H H2) ⟨[],0,none,none,none,none,K,af,.nil,s0⟩ (by rintro i σ H2 _ ⟨_,_,_,_,_,_,_,_,_,_,s⟩;exact bG.of (s _ _ hr1)) ?_ ?_⟩
 ·rintro i x σ H2 hi ⟨bs,t,u,v,x1,y1,rfl,et,eN,hb,s⟩;rw[mY]at hi;let⟨ad,ea,rfl⟩:=Option.map_eq_some_iff.mp hi;let⟨⟨st,en⟩,ep,ha⟩:=hp.get ea;have step:=FL a b (st,en) (row.take i) 0;rw[← take_snoc ep,Int.zero_add,← et]at step;have et2:t+(en-st)=i7 (row.take (i+1)):=by rw[take_snoc ep,OP,et]
  have bl:↑bs<sizeLine:=by
   have z:=hb.len;have z2:=jZ a b (row.take i) 0;rw[gr]at z2;exact aQ ∅
  have e1:(if (0:Int) > a-t then (0:Int) else a-t)=max (a-t) 0:=by split <;> lia
  have e2:(if en-st<b-t then en-st else b-t)=min (b-t) (en-st):=by split <;> lia
  exists ad,Y,cW.of (s _ _ ha),rfl,E,rfl,Z;exists Y,Y,Z,E,rfl;exists Y,Y,Z,Y,Y,Z,E,rfl;rw[e1,e2];refine⟨Y,Y,Z,Y,cR (λc=>?_) (λc=>?_)⟩
  ·have c':max (a-t) 0<min (b-t) (en-st):=of_decide_eq_true c;unfold OU at step;rw[if_pos c']at step;refine⟨Y,.inl ⟨rfl,_,bG.of eN⟩,Y,Y,Z,Y,Y,Z,oX,λtu htu=>⟨q,Z,ak htu _ _ _ eN,(by rw[cB];exact bl),?_⟩⟩;let⟨g1,g2,g3⟩:=OT (st:=st+max (a-t) 0) (en:=st+min (b-t) (en-st)) hq s eN hb htu;exists Y,Y,Y,Z,Z;refine⟨bs++[tu],Q,E,rfl,et2,g1,?_,g3⟩;rw[step];exact g2
  ·have c':¬ max (a-t) 0<min (b-t) (en-st):=λz=>c (decide_eq_true z);unfold OU at step;rw[if_neg c',fV]at step;exists Y,Y,Y,Z,Z;refine⟨bs,Q,E,rfl,et2,eN,?_,s⟩;rw[step];exact hb
 ·rintro σ H2 ⟨bs,t,u,v,x1,y1,rfl,et,eN,hb,s⟩;rw[cB,hp.len,gH]at hb;exact⟨Y,k q H2 ⟨bs,eN,hb⟩ s hq⟩
class inductive Tf
 | mk (r:Addr) (row:Row) (a b:Int) (_:vs=[↥r,.int a,.int b]) (_:bW H r row) (_:↑row<=1000000) (_:Sw a b (i7 row)) (_:∀ (q:Addr) (H':Hp),bW H' q (cy (kM a b 0 row))->aI H H'->H q=none->Q ↥q H')
theorem XG:aF ["row","start","stop"] ["row","start","stop"] (az OD):=eO
theorem Tg:‹(3,8,["row","start","stop"],Tf)›:=λD=>by
 specialize eS D.dq8.F XG;let⟨r,row,a,b,rfl,R,hl,z,k⟩:=h;exists _,(aj (aT (aH D.YR (gK D) hr (aa (pv 0) (aa (pv 1) (aa (pv 2) ah))))) (au (aJ (aH D.Vc (mP D) hr (aa (aH D.Xi (sV D) hr (aa (pv 0) (aa (pv 1) (aa (pv 2) ah)))) ah)))));refine⟨Y,Y,Y,r,row,a,b,rfl,R,hl,z,λH1 s1=>?_⟩;refine⟨Y,Y,Y,r,row,a,b,rfl,R.same s1,hl,λq H2 R2 s2 hq=>?_⟩;refine⟨q,Y,R2,gX (jZ a b row 0) hl,λq3 H3 R3 s3 Pk=>?_⟩;exact k q3 H3 R3 (s1.trans (s2.trans s3)) (aR (s1.trans s2) Pk)
def Bl(CB:Addr)(H:Hp)(x d t:Addr):Prop:=H x=⇑(.ins CB d [("stains",↥t)])
class inductive Th(CB:Addr)
 | mk (x d:Addr) (_:vs=[↥x]) (_:H x=⇑(.ins CB d [])) (_: ∀ (t:Addr) (H':Hp),Bl CB H' x d t->bW H' t []->cz x H H'->H t=none->Q .fT H')
class inductive XH(CB:Addr)
 | mk (x d t:Addr) (row:Row) (_:vs=[↥x]) (_:Bl CB H x d t) (_:bW H t row) (_: ∀ (q:Addr) (H':Hp),bW H' q row->aI H H'->H q=none->Q ↥q H')
theorem xN:aF ["self"] ["self"] (az kT):=eO
theorem Gi:aF ["self"] ["self"] (az uD):=eO
theorem vU:‹(1,9,["self"],(Th CB))›:=λD=>by
 specialize eS D.dq9.F xN;let⟨x,d,rfl,hx,k⟩:=h;exists _,(au (je (pv 0) (bL ah) rfl));refine⟨gQ,λt ht=>?_⟩;have nt:t≠x:=(aA hx ht).symm;refine⟨Y,x,CB,d,Y,ak ht _ _ _ hx,D.qf.cl,D.sE,by decide,?_⟩;exact k t _ af ⟨[],by rw[aL nt,af];rfl,.nil⟩ (λa o e n=>by rw[aL n];exact ak ht _ a o e) ht
theorem D5:‹(1,76,["self"],(XH CB))›:=λD=>by
 specialize eS D.abh.F Gi;let⟨x,d,t,row,rfl,hx,R,k⟩:=h;let⟨as,h1,p1⟩:=id R;exists _,(au (aJ (d9 eX rfl D.T.iR tL (aa (cC (pv 0) rfl) ah))));refine⟨Y,x,CB,d,_,↥t,rfl,hx,D.qf.cl,D.sE,rfl,t,Y,.inl (bG.of h1),λq hq=>?_⟩;have s1:aI H (aN H q (.lst (as.map V.ref))):=ak hq _;exact k q _ ⟨as,af,p1.same s1⟩ s1 hq
theorem Gj:aF ["row"] ["row"] (az pI):=eO
theorem vV:‹(1,10,["row"],Su)›:=λD=>by
 specialize eS D.Xj.F Gj;let⟨r,row,rfl,⟨as,hr1,hp⟩,hok,dJ,k⟩:=h;refine⟨_,(au (aJ (xK (N:=["start","stop","address"]) (jI (sc:=az pI) (NX:=["row"]) (jx:=[none,none,none]) rfl rfl rfl nofun nofun rfl nofun rfl nofun) rfl (cu (pv 0)) (λ_ _ _ _ _ _=>(sR (n:=2) rfl (bP (bQ (i:=0) (show List.Nodup (["start","stop","address"]:List Str) by decide +kernel)) (bP (bQ (i:=1) (show List.Nodup (["start","stop","address"]:List Str) by decide +kernel)) fX)))) (λ_ _ _ _ _ _=>fZ) (λ_ _ _ _ _ _=>(Ms rfl D.T.jb (aa (pv 0) (aa (pv 1) ah)))) (λ_ _ _ _ _ _=>(bQ (i:=2) (show List.Nodup (["start","stop","address"]:List Str) by decide +kernel))) (λ_ _ _ _ _ _=>fZ) (λ_ _ _ _ _ _=>(pv 2))))),?_⟩;refine⟨Y,r,rfl,⟨_,bG.of hr1⟩,λacc cP=>rE (K:=K) (a:=r) (xs:=as.map V.ref) (λi σ H2=>∃ u v z:Option V,σ=[u,v,z]/\H2 acc=⇑(.lst ((bK (row.take i)).map V.int))/\aI H H2) ⟨none,none,none,rfl,af,ak cP _⟩ (by rintro i σ H2 _ ⟨_,_,_,_,_,s⟩;exact bG.of (s _ _ hr1)) ?_ ?_⟩
 ·rintro i x σ H2 hi ⟨u,v,z,rfl,ha,s⟩;rw[mY]at hi;let⟨a,ea,rfl⟩:=Option.map_eq_some_iff.mp hi;let⟨⟨st,en⟩,ep,hpa⟩:=hp.get ea;have b2:st<=en:=hok _ (nJ ep);have step:=Ah ep
  have lz:↑(bK (row.take i))+(en-st).toNat<=1000000:=by
   have z:=uc row (i+1);rw[step,cT,jG,fD]at z;exact gX z dJ
  refine⟨a,Y,cW.of (s _ _ hpa),rfl,E,rfl,Z,yes (iX ?_)⟩;refine⟨Y,Y,st,en,rfl,FH (lo:=st) (k:=(en-st).toNat) (λj σ H3=>∃ z:Option V,σ=[⇑(.int st),⇑(.int en),z]/\H3 acc=⇑(.lst ((bK (row.take i)++run st j).map V.int))/\aI H H3) ⟨z,rfl,?_,s⟩ ?_ ?_⟩
  ·rw[run,fV];exact ha
  ·rintro j σ H3 hj ⟨z,rfl,h3,s3⟩;refine Ss ?_;refine iX ?_;refine⟨Y,_,h3,?_,Y,?_,bH cP s3 (aG acc _ _)⟩
   ·rw[cB,cT,fD];exact aQ ∅
   ·rw[af,oU,← m8];simp
  ·rintro σ H3 ⟨z,rfl,h3,s3⟩;refine⟨Q,rfl,?_,s3⟩;rw[step];exact h3
 ·rintro σ H2 ⟨u,v,z,rfl,ha,s⟩;rw[cB,hp.len,gH]at ha;exact k acc H2 ha s cP
theorem MN(aP:List aS):↑(eZ aP)<=↑aP:=List.length_filterMap_le _ aP
class inductive XI
 | mk (r:Addr) (aP:List aS) (_:vs=[↥r]) (_:bw H ↥r aP) (_:↑aP<=100000) (_ :
 ∀ (o:Addr) (H':Hp),H' o=⇑(.lst ((eZ aP).map V.int))->aI H H'->H o=none->Q ↥o H')
theorem MO:aF ["items"] ["items"] (az vG):=eO
theorem Az:‹(1,11,["items"],XI)›:=λD=>by
 specialize eS D.Xk.F MO;let⟨r,aP,rfl,⟨a,vs,e,hr1,hp⟩,dJ,k⟩:=h;cases e;refine⟨_,(au (aJ (gI (N:=["item"]) (jI (sc:=az vG) (NX:=["items"]) (jx:=[none]) rfl rfl rfl nofun nofun rfl nofun rfl nofun) rfl (cu (pv 0)) (λ_ _ _ _ _ _=>(bQ (i:=0) (show List.Nodup (["item"]:List Str) by decide +kernel))) (λ_ _ _ _ _ _=>vL (aV dY (aO DO (pv 0) ay) bI (bh _))) (λ_ _ _ _ _ _=>(aO DO (pv 0) ay))))),?_⟩;refine⟨Y,r,rfl,⟨_,bG.of hr1⟩,λacc cP=>fE (K:=K) (a:=r) (xs:=vs) (λi σ H2=>∃ u:Option V,σ=[u]/\H2 acc=⇑(.lst ((eZ (aP.take i)).map V.int))/\aI H H2) ⟨none,rfl,af,ak cP _⟩ (by rintro i σ H2 _ ⟨_,_,_,s⟩;exact bG.of (s _ _ hr1)) ?_ ?_⟩
 ·rintro i x σ H2 hi ⟨u,rfl,ha,s⟩;let⟨it,ei,b,rfl,hb⟩:=hp.get hi;have step:eZ (aP.take (i+1))=eZ (aP.take i)++eZ [it]:=by rw[take_snoc ei,gm]
  have bl:↑(eZ (aP.take i))<=100000:=by
   have z:=MN (aP.take i);rw[gr]at z;lia
  cases it with
  | win n =>
   refine⟨Y,b,Q,K,cW.of (s _ _ hb),K,Y,cR (λ_=>?_) (λz=>absurd (by decide) z)⟩;refine⟨Y,b,Q,K,cW.of (s _ _ hb),rfl,_,ha,(by rw[cB];exact aQ ∅),Y,?_,bH cP s (aG acc _ _)⟩;rw[af,step,gE];rfl
  | aK p q =>
   refine⟨Y,b,Q,K,cW.of (s _ _ hb),K,Y,cR (λz=>absurd z (by decide)) (λ_=>?_)⟩;refine⟨Y,?_,s⟩;rw[ha,step];show _=⇑(HO.lst ((eZ (aP.take i)++[]).map V.int));rw[fV]
 ·rintro σ H2 ⟨u,rfl,ha,s⟩;rw[hp.len,gH]at ha;exact k acc H2 ha s cP
structure MP(rows:cJ)(ks:List Int):Prop where
 Fd:∀ x∈ks,0<=x/\x<↑rows
 dn:∀ (i:Nat) (x:Int),ks[i]?=⇑x->∀ y,gO rows x y->y∈ks.take i
class inductive Ti
 | mk (r L:Addr) (rows:cJ) (ss:List Int) (_:vs=[↥r,↥L]) (_:gc H r (rows.map aC)) (_:H L=⇑(.lst (ss.map V.int))) (_:↑ss<=1000) (_:↑rows<=1000) (_:(∀ es∈rows,↑es<=1000)) (_:gf rows) (_:Bq rows) (_:(∀ s∈ss,0<=s/\s<↑rows)) (_ :
 ∀ (ks:List Int) (o:Addr) (H':Hp),H' o=⇑(.lst (ks.map V.int))->aI H H'->MP rows ks->(∀ s∈ss,s∈ks)->↑ks<=1000->H o=none->Q ↥o H')
def MP.snoc{rows:cJ}{ks:List Int}{x:Int}(h:MP rows ks)(h0:0<=x)(h1:x<↑rows)(hx:∀ y,gO rows x y->y∈ks):MP rows (ks++[x]):=by
 refine⟨λy hy=>?_,λi y hi z hz=>?_⟩
 ·rcases List.mem_append.mp hy with q|q
  ·exact h.Fd y q
  ·have:y=x:=by simpa using q
   lia
 ·by_cases c:i<↑ks
  ·rw[yP c]at hi;rw[List.take_append_of_le_length ∅];exact h.dn i y hi z hz
  ·have c2:i=↑ks:=by
    rcases Nat.lt_or_ge i ↑(ks++[x]) with q|q
    ·rw[cT,gV]at q;lia
    ·rw[List.getElem?_eq_none q]at hi;cases hi
   subst c2;rw[List.getElem?_append_right (fK _),Nat.sub_self]at hi;cases hi;rw[List.take_append_of_le_length (fK _),gH];exact hx z hz
def C5{kvs:List (dN × V)}{ks:List Int}(h:kvs.map (·.1)=ks.map Sum.inl)(x:Int):seen kvs x↔x∈ks:=by
 unfold seen;rw[← mL,List.any_eq_true];constructor
 ·rintro⟨p,hp,e⟩;have e':p.1=Sum.inl x:=of_decide_eq_true e;have:p.1∈ks.map (Sum.inl:Int->dN):=by rw[← h];exact List.mem_map_of_mem hp
  rw[e',List.mem_map]at this;let⟨y,hy,ey⟩:=this;rw[Sum.inl.inj ey]at hy;exact hy
 ·intro hx;have:(Sum.inl x:dN)∈kvs.map (·.1):=by rw[h];exact List.mem_map_of_mem hx
  let⟨p,hp,e⟩:=List.mem_map.mp this;exact⟨p,hp,decide_eq_true e⟩
structure Bel(rows:cJ)(rk:Int->Nat)(H:Hp)(W S:Addr)(ss:List Int)(H2:Hp)(bs ps ks:List Int)(kvs:List (dN × V)):Prop where
 hW:H2 W=⇑(.lst ((bs++ps).map V.int))
 hS:H2 S=⇑(.dK kvs)
 sm:aI H H2
 ky:kvs.map (·.1)=ks.map Sum.inl
 tp:MP rows ks
 rg:∀ x∈bs++ps,0<=x/\x<↑rows
 ns:∀ x∈ps,¬ seen kvs x
 pw:ps.Pairwise λa b=>rk b<rk a
 rb:∀ (i:Nat) (x:Int),ps[i]?=⇑x->rk x+i<=40
 st:∀ s∈ss,s∈bs\/s∈ks
 kl:↑kvs+oj ↑rows kvs<=↑rows
 bl:↑bs<=1000
def C6{kvs:List (dN × V)}{k:dN}(v:V)(h:(cL kvs k).isSome=true):(dc kvs k v).map (·.1)=kvs.map (·.1):=by
 unfold dc;rw[if_pos (by rw[mL];exact h),List.map_map];refine List.map_congr_left λp _=>?_;show (if p.1=k then (p.1,v) else p).1=p.1
 split <;> rfl
def Jw{rk:Int->Nat}{ps:List Int}(rb:∀ (i:Nat) (x:Int),ps[i]?=⇑x->rk x+i<=40):↑ps<=41:=by
 rcases qG ps with rfl|⟨p',n,rfl⟩
 ·simp
 ·rw[nK]at rb ⊢;have:=rb ↑p' n (by rw[List.getElem?_append_right (fK _),Nat.sub_self];rfl);rw[cT,gV];lia
structure Top(rk:Int->Nat)(ss bs ps ks:List Int)(kvs:List (dN × V))(BF xO:List Int)(n:Int):Prop where
 eq:bs++ps=BF++xO++[n]
 ns:∀ x∈xO,¬ seen kvs x/\x≠n
 pw:xO.Pairwise λa b=>rk b<rk a
 rb:∀ (i:Nat) (x:Int),xO[i]?=⇑x->rk x+i<=40
 st:∀ s∈ss,s∈BF\/s=n\/s∈ks
 old:seen kvs n->BF.length+50-↑xO<↑bs+50-↑ps
 le:BF.length+50-↑xO<=↑bs+51-↑ps
 bl:BF.length<=↑bs
 up:∀ y:Int,rk y<=40->rk y<rk n->(ps++[y]).Pairwise (λa b=>rk b<rk a)/\∀ (i:Nat) (x:Int),(ps++[y])[i]?=⇑x->rk x+i<=40
def Bel.top{rows:cJ}{rk:Int->Nat}{H:Hp}{W S:Addr}{ss:List Int}{H2:Hp}{bs ps ks:List Int}{kvs:List (dN × V)}(B:Bel rows rk H W S ss H2 bs ps ks kvs):bs++ps=[]\/∃ BF xO n,Top rk ss bs ps ks kvs BF xO n:=by
 have Po:∀ (qs:List Int) (y:Int),(∀ (i:Nat) (x:Int),qs[i]?=⇑x->rk x+i<=40)->rk y+↑qs<=40->∀ (i:Nat) (x:Int),(qs++[y])[i]?=⇑x->rk x+i<=40:=by
  intro qs y h1 h2 i x hx;rcases Nat.lt_or_ge i ↑qs with q|q
  ·rw[yP q]at hx;exact h1 i x hx
  ·have qi:i=↑qs:=by
    rcases Nat.lt_or_ge i ↑(qs++[y]) with w|w
    ·rw[cT,gV]at w;lia
    ·rw[List.getElem?_eq_none w]at hx;cases hx
   subst qi;rw[List.getElem?_append_right (fK _),Nat.sub_self]at hx;cases hx;exact h2
 rcases qG ps with rfl|⟨xO,n,rfl⟩
 ·rcases qG bs with rfl|⟨BF,n,rfl⟩
  ·exact .inl rfl
  ·rw[nK]at B ⊢;refine .inr ⟨BF,[],n,by simp,by simp,by simp,by simp,λs hs=>?_,λ_=>?_,?_,?_,λy h1 h2=>⟨by simp,Po [] y (by simp) (by simpa using h1)⟩⟩
   ·rcases B.st s hs with z|z
    ·rcases List.mem_append.mp z with z|z
     ·exact .inl z
     ·exact .inr (.inl (by simpa using z))
    ·exact .inr (.inr z)
   ·rw[cT,gV];simp only[lM];lia
   ·rw[cT,gV];simp only[lM];lia
   ·rw[cT,gV];lia
 ·rw[nK]at B ⊢;have pwd:=List.pairwise_append.mp B.pw;have rbn:=B.rb ↑xO n (by rw[List.getElem?_append_right (fK _),Nat.sub_self];rfl);refine .inr ⟨bs,xO,n,by rw[m8],λx hx=>⟨B.ns x (tM _ hx),λe=>?_⟩,pwd.1,λi x hx=>?_,λs hs=>(B.st s hs).elim .inl λz=>.inr (.inr z),λz=>absurd z (B.ns n (by simp)),?_,fK _,λy h1 h2=>⟨?_,Po _ y B.rb ?_⟩⟩
  ·subst e;exact Nat.lt_irrefl _ (pwd.2.2 x hx x (by simp))
  ·refine B.rb i x ?_;rw[yP]
   ·exact hx
   ·rcases Nat.lt_or_ge i ↑xO with q|q
    ·exact q
    ·rw[List.getElem?_eq_none q]at hx;cases hx
  ·rw[cT,gV];lia
  ·rw[List.pairwise_append];refine⟨B.pw,by simp,λa ha c hc=>?_⟩;have:c=y:=by simpa using hc
   subst this;rcases List.mem_append.mp ha with q|q
   ·have:=pwd.2.2 a q n (by simp);lia
   ·have:a=n:=by simpa using q
    subst this;exact h2
  ·rw[cT,gV];lia
def Vj(rows:cJ)(rk:Int->Nat)(H:Hp)(r L W S:Addr)(ss:List Int)(m:Nat)(σ:L2.St)(H2:Hp):Prop:=∃ (bs ps ks:List Int) (kvs:List (dN × V)) (u v:Option V),σ=[⇑↥r,⇑↥L,⇑↥S,⇑↥W,u,v]/\Bel rows rk H W S ss H2 bs ps ks kvs/\m=100*oj ↑rows kvs+(↑bs+50-↑ps)
theorem vW:aF ["rows","sheets","told","waiting","number","missing"] ["rows","sheets"] (az DG):=eO
theorem Gk:‹(2,12,["rows","sheets"],Ti)›:=λD=>by
 refine eS D.Xl.F vW λcU A zn s0 H vs Q E hr h=>?_;let⟨r,L,rows,ss,rfl,hR,hL,hsl,dJ,hes,pC,⟨rk,hrb,yV⟩,hin,k⟩:=h;have hu:=gT hr;refine⟨_,(aj (aZ (i:=2) vW.nd ko) (aj (aZ (i:=3) vW.nd (d9 eX rfl D.T.iR tL (aa (pv 1) ah))) (aj (qV PassesOwn.never (mq (pv 3) (λ_=>rfl)) (aj (aZ (i:=4) vW.nd (aO bu (pv 3) (gv d7 ay))) (aj (zw (N:=["other","told"]) (i:=5) (jI (sc:=az DG) (NX:=["rows","sheets","told","waiting","number","missing"]) (jx:=[none,some 2]) rfl rfl rfl nofun nofun rfl nofun rfl nofun) rfl vW.nd rfl rfl (cu (aH D.Xk (Az D) hr (aa (aO bu (pv 0) (pv 4)) ah))) (λ_ _ _ _ _ _=>(bQ (i:=0) (show List.Nodup (["other","told"]:List Str) by decide +kernel))) (λ_ _ _ _ _ _=>vL (zJ (CP hu (pv 0) (pv 1)))) (λ_ _ _ _ _ _=>(pv 0))) (au (bO (mq (pv 5) (λ_=>rfl)) (au (aT (dQ qF jV jW bS (pv 3) (aa (aO bu (pv 5) ay) ah)))) (aj (lR hu (pv 2) (pv 4) ng rfl) (au (aT (IM qF PySem.F.slot_list_pop PySem.F.type_list_pop Ov (pv 3)))))))))) (au (aJ (d9 (Jg rfl) rfl D.T.iR tL (aa (pv 2) ah))))))),?_⟩;intro S hS;have s1:aI H (aN H S (.dK [])):=ak hS _;refine⟨Y,L,Y,.inl (bG.of (s1 _ _ hL)),λW hW=>?_⟩;have s2:=s1.trans (ak hW (.lst (ss.map V.int)))
 have Tj:H W=none:=by
  cases e:H W with
  | none=>rfl
  | some o=>exact absurd ((s1 _ _ e).symm.trans hW) (by simp)
 have Vk:W≠S:=(aA af hW).symm;refine⟨Vj rows rk H r L W S ss,⟨_,ss,[],[],[],none,none,rfl,⟨(by rw[af,fV]),ak hW _ _ _ af,s2,rfl,⟨(λx hx=>by cases hx),λi x hi=>by simp at hi⟩,(λx hx=>hin x (by simpa using hx)),by simp,by simp,by simp,(λs hs=>.inl hs),?_,hsl⟩,rfl⟩,?_⟩
 ·have:=As ↑rows (λi=>(cL ([]:List (dN × V)) (Sum.inl (i:Int))).isNone);show 0+cnt ↑rows _<=_;lia
 rintro m σ H2 ⟨bs,ps,ks,kvs,u,v,rfl,B,rfl⟩;exists Y,!((bs++ps).map V.int).isEmpty,.inl ⟨_,bG.of B.hW,rfl⟩;rcases B.top with en|⟨BF,xO,n,t⟩
 ·have e2:(!((bs++ps).map V.int).isEmpty)=false:=by rw[en];rfl
  rw[e2];refine eL ?_
  have ek:kvs.map (λp=>kV p.1)=ks.map V.int:=by
   have z:kvs.map (λp=>kV p.1)=(kvs.map (·.1)).map kV:=by rw[List.map_map];rfl
   rw[z,B.ky,List.map_map];rfl
  have kl:↑ks=↑kvs:=by
   have z:=congrArg List.length B.ky;rw[cB,cB]at z;exact z.symm
  have kll:=B.kl;refine⟨Y,S,kvs,rfl,B.hS,λl hl=>?_⟩;refine k ks l _ (by rw[af,ek]) (B.sm.trans (ak hl _)) B.tp (λs hs=>(B.st s hs).elim (λz=>?_) id) ∅ ?_
  ·rw[(List.append_eq_nil_iff.mp en).1]at z;cases z
  cases e:H l with
  | none=>rfl
  | some o=>exact absurd ((B.sm _ _ e).symm.trans hl) (by simp)
 have eW:=B.hW;rw[t.eq]at eW;rw[t.eq];refine cR (λ_=>?_) (λz=>absurd (by simp) z);refine⟨fun σ' H'=>∃ m',m'<100*oj ↑rows kvs+(↑bs+50-↑ps)/\Vj rows rk H r L W S ss m' σ' H',fun σ' H' z=>z,?_⟩;have an:qJ ((BF++xO++[n]).map V.int) (-1)=⇑(.int n):=by rw[gE];exact gx _ _
 let⟨n0,n1⟩:=B.rg n (by rw[t.eq];simp);have tl:=t.le;have UK:=t.bl;have pl:=Jw B.rb;have pl':=Jw t.rb;have bbl:=B.bl;obtain⟨es,eV⟩:∃ es,rows[n.toNat]?=⇑es:=⟨_,tK ∅⟩;have XJ:=hes es (nJ eV);let⟨qL,Ju,rL⟩:=hR.same B.sm;let⟨vi,D6,hI⟩:=rL.get' (i:=n.toNat) (b:=aC es) (by rw[mY,eV];rfl);let⟨b,Rk,rfl,hb,uU⟩:=id hI;have hil:=oV es []
 have vX:qJ qL n=⇑↥b:=by
  have z:=dm D6;rw[show ((n.toNat:Nat):Int)=n by lia]at z;exact z
 exists Y,Y,W,Q,K,bG.of eW,an;refine⟨Y,Y,r,Q,K,bG.of Ju,vX,b,aC es,rfl,hI,?_,λz H4 hz s4 nz=>?_⟩
 ·show ↑(es.foldl bg [])<=_;simp only[lM]at hil;lia
 rw[iI]at hz;have afi:↑(dM es)<=↑es:=List.length_filterMap_le _ es;have hS4:=s4 _ _ B.hS;have hW4:=s4 _ _ eW;refine⟨z,rfl,⟨_,bG.of hz⟩,λacc cP=>fE (K:=K) (a:=z) (xs:=(dM es).map V.int) (λi σ H5=>∃ u:Option V,σ=[u,⇑↥S]/\H5 acc=⇑(.lst ((((dM es).take i).filter (λy=>(cL kvs (Sum.inl y)).isNone)).map V.int))/\aI H4 H5) ⟨none,rfl,af,ak cP _⟩ (by rintro i σ H5 _ ⟨_,_,_,s5⟩;exact bG.of (s5 _ _ hz)) ?_ ?_⟩
 ·rintro i x σ H5 hi ⟨u,rfl,h5,s5⟩;rw[mY]at hi;let⟨y,ey,rfl⟩:=Option.map_eq_some_iff.mp hi;have st:=take_snoc ey
  have bl:↑(((dM es).take i).filter (λy=>(cL kvs (Sum.inl y)).isNone))<=1000:=by
   have z:=List.length_filter_le (λy=>(cL kvs (Sum.inl y)).isNone) ((dM es).take i);rw[gr]at z;lia
  exists Y,Y,S,Y,jj.k (k:=Sum.inl y) (s5 _ _ hS4),Y
  cases ev:cL kvs (Sum.inl y) with
  | none =>
   refine iX ⟨Y,_,h5,(by rw[cB];exact aQ ∅),Y,?_,bH cP s5 (aG acc _ _)⟩;rw[af,st,List.filter_append,List.filter_cons_of_pos (p:=λy=>(cL kvs (Sum.inl y)).isNone) (by rw[ev];rfl),gE];rfl
  | some o =>
   refine eL ⟨Y,?_,s5⟩;rw[st,List.filter_append,List.filter_cons_of_neg (p:=λy=>(cL kvs (Sum.inl y)).isNone) (by rw[ev];exact gF),List.filter_nil,fV];exact h5
 rintro σ H5 ⟨u,rfl,h5,s5⟩;rw[cB,gH]at h5;have hS5:=s5 _ _ hS4;have hW5:=s5 _ _ hW4;have sm5:=B.sm.trans (s4.trans s5);have kll:=B.kl;exists Y,_,.inl ⟨_,bG.of h5,rfl⟩
 cases em:(dM es).filter (λy=>(cL kvs (Sum.inl y)).isNone) with
 | nil =>
  refine eL ?_
  have afl:∀ y,gO rows n y->y∈ks:=by
   rintro y ⟨_,tV,CK,hy⟩;rw[eV]at CK;cases CK;rw[← C5 B.ky];have z:=List.filter_eq_nil_iff.mp em y hy;unfold seen
   cases q:cL kvs (Sum.inl y) with
   | none=>rw[q]at z;exact absurd rfl z
   | some o=>rfl
  refine⟨Y,Y,S,Y,vM.k (k:=Sum.inl n) hS5 (aQ ∅),?_⟩;have Rl:(aN H5 S (.dK (dc kvs (Sum.inl n) (.bl true)))) W=⇑(.lst ((BF++xO++[n]).map V.int)):=by rw[aL Vk];exact hW5
  refine⟨Y,.inl ⟨rfl,_,bG.of Rl⟩,W,_,.int n,K,Rl,(by simp),?_⟩;have ee:((BF++xO++[n]).map V.int).dropLast=(BF++xO).map V.int:=by rw[gE (l₁:=BF++xO),List.map_singleton,List.dropLast_concat]
  rw[ee];have rg':∀ x∈BF++xO,0<=x/\x<↑rows:=λx hx=>B.rg x (by rw[t.eq];exact tM _ hx)
  cases en:cL kvs (Sum.inl n) with
  | none =>
   have mp:=F4 (n:=↑rows) (.bl true) n0 n1 en;refine⟨100*oj ↑rows (dc kvs (Sum.inl n) (.bl true))+(BF.length+50-↑xO),by lia,BF,xO,ks++[n],dc kvs (Sum.inl n) (.bl true),E,rfl,⟨af,(by rw[aL Vk.symm,af]),bH Tj (bH hS sm5 (aG S _ _)) (aG W _ _),?_,B.tp.snoc n0 n1 afl,rg',λx hx=>?_,t.pw,t.rb,λs hs=>?_,?_,by lia⟩,rfl⟩
   ·rw[Aj _ en,gE,B.ky,gE];rfl
   ·intro q;rcases (rF _).mp q with e|e
    ·exact (t.ns x hx).2 e
    ·exact (t.ns x hx).1 e
   ·rcases t.st s hs with q|q|q
    ·exact .inl q
    ·exact .inr (by rw[q];simp)
    ·exact .inr (tM _ q)
   ·rw[Aj _ en,cT,gV]at *;lia
  | some o =>
   have sn:seen kvs n:=by unfold seen;rw[en];rfl
   have so:=t.old sn
   have sp:∀ x,seen (dc kvs (Sum.inl n) (.bl true)) x↔seen kvs x:=λx=>by
    rw[rF];exact⟨λz=>z.elim (λe=>by rw[e];exact sn) id,.inr⟩
   have ms:oj ↑rows (dc kvs (Sum.inl n) (.bl true))=oj ↑rows kvs:=by
    refine O2 _ λi _=>?_;have z:=sp (i:Int);unfold seen at z
    cases q1:cL (dc kvs (Sum.inl n) (.bl true)) (Sum.inl (i:Int)) with
    | none =>
     cases q2:cL kvs (Sum.inl (i:Int)) with
     | none=>rfl
     | some o2=>rw[q1,q2]at z;exact absurd (z.mpr rfl) gF
    | some o1 =>
     cases q2:cL kvs (Sum.inl (i:Int)) with
     | none=>rw[q1,q2]at z;exact absurd (z.mp rfl) gF
     | some o2=>rfl
   have kn:n∈ks:=(C5 B.ky n).mp sn;refine⟨100*oj ↑rows (dc kvs (Sum.inl n) (.bl true))+(BF.length+50-↑xO),by rw[ms];lia,BF,xO,ks,dc kvs (Sum.inl n) (.bl true),E,rfl,⟨af,(by rw[aL Vk.symm,af]),bH Tj (bH hS sm5 (aG S _ _)) (aG W _ _),?_,B.tp,rg',λx hx q=>(t.ns x hx).1 ((sp x).mp q),t.pw,t.rb,λs hs=>?_,?_,by lia⟩,rfl⟩
   ·rw[C6 _ (by rw[en];rfl),B.ky]
   ·rcases t.st s hs with q|q|q
    ·exact .inl q
    ·exact .inr (by rw[q];exact kn)
    ·exact .inr q
   ·have z:=congrArg List.length (C6 (kvs:=kvs) (k:=Sum.inl n) (.bl true) (by rw[en];rfl));rw[cB,cB]at z;rw[z,ms];exact kll
 | cons y ts =>
  refine iX ?_;rw[em]at h5;have ym:y∈(dM es).filter (λy=>(cL kvs (Sum.inl y)).isNone):=by rw[em];simp
  let⟨yw,yn⟩:=List.mem_filter.mp ym;have HY:gO rows n y:=⟨n0,es,eV,yw⟩;let⟨y0,y1⟩:=pC.Bp HY;let⟨up1,up2⟩:=t.up y (hrb y) (yV n y HY);have wl:=congrArg List.length t.eq;rw[cT]at wl;refine⟨Y,.inl ⟨rfl,_,bG.of hW5⟩,Y,acc,Q,K,bG.of h5,dm (xs:=V.int y::ts.map V.int) (j:=0) rfl,W,Z,hW5,(by rw[cB,← wl];exact aQ ∅),?_⟩;have pl2:=Jw up2;rw[cT,gV]at pl2;refine⟨100*oj ↑rows kvs+(↑bs+50-↑(ps++[y])),?_,bs,ps++[y],ks,kvs,E,rfl,⟨(by rw[af,← m8,t.eq,gE (l₁:=BF++xO++[n])];rfl),(by rw[aL Vk.symm];exact hS5),bH Tj sm5 (aG W _ _),B.ky,B.tp,λx hx=>?_,λx hx=>?_,up1,up2,B.st,kll,bbl⟩,rfl⟩
  ·rw[cT,gV];lia
  ·rw[← m8]at hx;rcases List.mem_append.mp hx with q|q
   ·exact B.rg x q
   ·have:x=y:=by simpa using q
    subst this;exact⟨y0,y1⟩
  ·rcases List.mem_append.mp hx with q|q
   ·exact B.ns x q
   ·have:x=y:=by simpa using q
    subst this;intro q;unfold seen at q
    cases w:cL kvs (Sum.inl x) with
    | none=>rw[w]at q;cases q
    | some o=>rw[w]at yn;cases yn
structure Bfs(rows:cJ)(H:Hp)(W S:Addr)(s g:Int)(Pp:Int->Prop)(H2:Hp)(vs:List V)(wl:cJ)(kvs:List (dN × V)):Prop where
 hW:H2 W=⇑(.lst vs)
 hl:cj (fF (λa=>a=W\/a=S) H2) vs wl
 hS:H2 S=⇑(.dK kvs)
 sm:aI H H2
 wk:∀ w∈wl,Walk (gO rows) s w/\↑w<=↑kvs+1/\∃ e,w.getLast?=⇑e/\0<=e/\e<↑rows
 kl:↑kvs+oj ↑rows kvs<=↑rows
 cl:∀ x,(x=s\/seen kvs x)->(∃ w∈wl,w.getLast?=⇑x)\/Pp x\/∀ y,gO rows x y->y≠g/\seen kvs y
class inductive Vm
 | mk (r:Addr) (rows:cJ) (s g:Int) (_:vs=[↥r,.int s,.int g]) (_:gc H r (rows.map aC)) (_:↑rows<=1000) (_:(∀ es∈rows,↑es<=1000)) (_:gf rows) (_:0<=s) (_:s<↑rows) (_:(∀ (Pq:List Int) (o:Addr) (H':Hp),H' o=⇑(.lst (Pq.map V.int))->aI H H'->Walk (gO rows) s Pq->2<=Pq.length->Pq.length<=2000->Pq.getLast?=⇑g->Q ↥o H')) (_:(¬ Reach (gO rows) s g->∀ H',aI H H'->Q .fT H'))
theorem iY:aF ["rows","start","goal","ways","seen","way","number"] ["rows","start","goal"] (az pJ):=eO
def muW(n:Nat)(W S:Addr):L2.St->Hp->Nat:=λ_ H=>match H W,H S with
 | some (.lst vs),some (.dK kvs)=>2*oj n kvs+↑vs
 | _,_=>0
def Pr{n:Nat}{W S:Addr}{σ:L2.St}{H:Hp}{vs:List V}{kvs:List (dN × V)}(h1:H W=⇑(.lst vs))(h2:H S=⇑(.dK kvs)):muW n W S σ H=2*oj n kvs+↑vs:=by
 unfold muW;rw[h1,h2]
def Vn(rows:cJ)(H:Hp)(r W S:Addr)(s g:Int)(σ:L2.St)(H2:Hp):Prop:=∃ (vs:List V) (wl:cJ) (kvs:List (dN × V)) (u v:Option V),σ=[⇑↥r,⇑(.int s),⇑(.int g),⇑↥W,⇑↥S,u,v]/\Bfs rows H W S s g (λ_=>False) H2 vs wl kvs/\↑vs+2*oj ↑rows kvs<=2*↑rows+1
theorem rM:‹(2,13,["rows","start","goal"],Vm)›:=λD=>by
 refine eS D.Xm.F iY λcU A zn s0 H vs Q E hr h=>?_;let⟨r,rows,s,g,rfl,hR,dJ,hes,pC,h0,h1,kY,kN⟩:=h;have hu:=gT hr;refine⟨_,(aj (aZ (i:=3) iY.nd (bL (aa (bL (aa (pv 1) ah)) ah))) (aj (aZ (i:=4) iY.nd ko) (aj (qV PassesOwn.never (mq (pv 3) (λ_=>rfl)) (aj (aZ (i:=5) iY.nd (dQ qF PySem.F.slot_list_pop PySem.F.type_list_pop Ow (pv 3) (aa ay ah))) (au (dX PassesOwn.never rfl (cu (aH D.Xk (Az D) hr (aa (aO bu (pv 0) (aO bu (pv 5) (gv d7 ay))) ah))) (bQ (i:=6) iY.nd) (aj (bO (aV dY (pv 6) (pv 2) (bh _)) (au (aJ (bz jC (pv 5) (bL (aa (pv 2) ah))))) br) (au (bO (zJ (CP hu (pv 6) (pv 4))) (aj (lR hu (pv 4) (pv 6) ng rfl) (au (aT (dQ qF jV jW bS (pv 3) (aa (bz jC (pv 5) (bL (aa (pv 6) ah))) ah))))) br))))))) (au (aJ VZ))))),?_⟩;refine⟨Y,ku,λa0 Ll=>⟨ku,λW hW=>?_⟩⟩;intro S hS;have s1:aI H (aN H a0 (.lst [.int s])):=ak Ll _;have s2:=s1.trans (ak hW (.lst [↥a0]));have s3:=s2.trans (ak hS (.dK []))
 have Tj:H W=none:=by
  cases e:H W with
  | none=>rfl
  | some o=>exact absurd ((s1 _ _ e).symm.trans hW) (by simp)
 have H0S:H S=none:=by
  cases e:H S with
  | none=>rfl
  | some o=>exact absurd ((s2 _ _ e).symm.trans hS) (by simp)
 have Vk:W≠S:=aA af hS;have n0W:a0≠W:=aA af hW;have n0S:a0≠S:=aA (ak hW _ _ _ af) hS;exists λm σ H2=>m=muW ↑rows W S σ H2/\Vn rows H r W S s g σ H2,⟨Y,?_⟩
 ·have cl:=As ↑rows (λi=>(cL ([]:List (dN × V)) (Sum.inl (i:Int))).isNone);refine⟨[↥a0],[[s]],[],none,none,rfl,⟨ak hS _ _ _ af,.cons ⟨a0,rfl,(λz=>z.elim n0W n0S),ak hS _ _ _ (ak hW _ _ _ af)⟩ .nil,af,s3,?_,?_,?_⟩,?_⟩
  ·intro w hw;have:w=[s]:=by simpa using hw
   subst this;exact⟨Walk.one _ _,by simp,s,rfl,h0,h1⟩
  ·show 0+oj ↑rows []<=↑rows;unfold oj;lia
  ·rintro x (rfl|hx)
   ·exact .inl ⟨[x],by simp,rfl⟩
   ·cases hx
  ·show 1+2*oj ↑rows []<=_;unfold oj;lia
 ·rintro m σ H2 ⟨rfl,vs,wl,kvs,u,v,rfl,B,hml⟩;rw[Pr B.hW B.hS];exists Y,!vs.isEmpty,.inl ⟨vs,bG.of B.hW,rfl⟩
  cases vs with
  | nil =>
   refine eL (kN (λXM=>?_) H2 B.sm);have ZX:=B.hl;cases ZX
   have zt:∀ x,(x=s\/seen kvs x)->∀ y,gO rows x y->y≠g/\seen kvs y:=λx hx=>by
    rcases B.cl x hx with ⟨w,hw,_⟩|z|z
    ·cases hw
    ·exact z.elim
    ·exact z
   exact (Reach.closed (S:=λy=>y≠g/\seen kvs y) (zt s (.inl rfl)) (λx y hx=>zt x (.inr hx.2) y) XM).1 rfl
  | cons v0 DQ =>
   refine iX ⟨fun σ' H'=>Vn rows H r W S s g σ' H'/\muW ↑rows W S σ' H'<2*oj ↑rows kvs+↑(v0::DQ),fun σ' H' ⟨p,l⟩=>⟨_,l,rfl,p⟩,?_⟩;let⟨hW2,Bu,Xa,sm2,wk2,kl2,cl2⟩:=id B
   cases Bu with
   | @cons _ w0 _ YS hv0 afq =>
   let⟨wa,rfl,nwa,hwa⟩:=id hv0;let⟨wkw,wlw,e,hle,e0,e1⟩:=wk2 w0 (by simp)
   have wal:∃ w1,w0=w1++[e]:=by
    rw[List.getLast?_eq_some_iff]at hle;exact hle
   let⟨w1,rfl⟩:=wal;obtain⟨es,eV⟩:∃ es,rows[e.toNat]?=⇑es:=⟨_,tK ∅⟩;have afr:es∈rows:=nJ eV;have XJ:=hes es afr;exists Y,.inl ⟨rfl,_,bG.of hW2⟩,W,_,0,0,↥wa,K,hW2,by decide,by decide,(by simp[seqIndex?]),rfl;have ee:(V.ref wa::DQ).eraseIdx 0=DQ:=rfl;rw[ee];have abA:∀ {v:V} {ns:List Int},fF (λa=>a=W\/a=S) H2 v ns->fF (λa=>a=W\/a=S) (aN H2 W (.lst DQ)) v ns:=λh=>h.at _ (.inl rfl);have Pu:aI H (aN H2 W (.lst DQ)):=bH Tj sm2 (aG W _ _);let⟨qL,Jv,rL⟩:=hR.same Pu;let⟨vi,D6,hI⟩:=rL.get' (i:=e.toNat) (b:=aC es) (by rw[mY,eV];rfl);let⟨b,Rk,rfl,hb,uU⟩:=id hI
   have afs:(aN H2 W (.lst DQ)) wa=⇑(.lst (w1.map V.int++[.int e])):=by
    rw[aL (λz=>nwa (.inl z)),hwa,gE];rfl
   have hil:=oV es [];refine⟨Y,Y,Y,wa,Q,K,bG.of afs,gx _ _,r,Q,K,bG.of Jv,?_,b,aC es,rfl,hI,?_,λz H4 hz s4 nz=>?_⟩
   ·have z:=dm D6;rw[show ((e.toNat:Nat):Int)=e by lia]at z;exact z
   ·show ↑(es.foldl bg [])<=_;simp only[lM]at hil;lia
   rw[iI]at hz;have hW3:(aN H2 W (.lst DQ)) W=⇑(.lst DQ):=af;have MQ:(aN H2 W (.lst DQ)) S=⇑(.dK kvs):=by rw[aL Vk.symm];exact Xa
   have nzW:z≠W:=(aA hW3 nz).symm;have nzS:z≠S:=(aA MQ nz).symm;have afi:↑(dM es)<=↑es:=List.length_filterMap_le _ es;refine⟨z,rfl,⟨_,bG.of hz⟩,dB (K:=K) (a:=z) (xs:=(dM es).map V.int) (λi σ H5=>∃ (Px:List V) (Vo:cJ) (j0:List (dN × V)) (v:Option V),σ=[⇑↥r,⇑(.int s),⇑(.int g),⇑↥W,⇑↥S,⇑↥wa,v]/\ Bfs rows H W S s g (λx=>x=e) H5 Px Vo j0/\fF (λa=>a=W\/a=S) H5 ↥wa (w1++[e])/\fF (λa=>a=W\/a=S) H5 ↥z (dM es)/\(∀ y∈(dM es).take i,y≠g/\seen j0 y)/\Px.length+2*oj ↑rows j0<=DQ.length+2*oj ↑rows kvs/\↑kvs<=↑j0) ?_ ?_ ?_ ?_⟩
   ·refine⟨DQ,YS,kvs,Y,⟨s4 _ _ hW3,afq.mono λ_ _ h=>(abA h).same s4,s4 _ _ MQ,Pu.trans s4,λw hw=>wk2 w (nI _ hw),kl2,λx hx=>?_⟩,(abA hv0).same s4,⟨z,rfl,λq=>q.elim nzW nzS,hz⟩,(λy hy=>by simp at hy),fK _,fK _⟩;rcases cl2 x hx with ⟨w,hw,hwx⟩|q|q
    ·rcases List.mem_cons.mp hw with rfl|hw'
     ·refine .inr (.inl ?_);rw[hle]at hwx;exact (oB hwx).symm
     ·exact .inl ⟨w,hw',hwx⟩
    ·exact q.elim
    ·exact .inr (.inr q)
   ·rintro i σ H5 _ ⟨_,_,_,_,_,_,_,⟨a,ea,_,ha⟩,_⟩;cases ea;exact bG.of ha
   ·rintro i x σ H5 hi ⟨Px,Vo,j0,v,rfl,B5,Tn,hz5,qw,YT,hk5⟩;rw[mY]at hi;let⟨y,ey,rfl⟩:=Option.map_eq_some_iff.mp hi;have HY:gO rows e y:=⟨e0,es,eV,nJ ey⟩;let⟨y0,y1⟩:=pC.Bp HY;let⟨wa',ewa,afw,Vp⟩:=id Tn;cases ewa;have wl0:↑(w1++[e])<=2000:=by have:=B5.kl;lia
    refine⟨Y,Y,rfl,Y,cR (λc=>?_) (λc=>?_)⟩
    ·have eg:y=g:=V.int.inj (of_decide_eq_true c);subst eg;refine⟨Y,Y,ku,λb1 DV=>⟨wa,b1,Z,ak DV _ _ _ Vp,af,gG (aQ (by rw[cB];simp at wl0 ⊢;lia)),λo ho=>?_⟩⟩;refine kY (w1++[e]++[y]) o _ ?_ ((B5.sm.trans (ak DV _)).trans (ak ho _)) (wkw.snoc hle HY) (by simp) (by have:=B5.kl;rw[cT,gV];lia) (by simp);rw[af,gE (l₁:=w1++[e])];rfl
    ·have eg:¬ y=g:=λq=>c (decide_eq_true (congrArg V.int q));exists Y,Y,S,Y,jj.k (k:=Sum.inl y) B5.hS,Y
     have Vq:∀ To:List (dN × V),(∀ x,seen j0 x->seen To x)->seen To y->∀ y'∈(dM es).take (i+1),y'≠g/\seen To y':=λTo abB hy y' Mb=>by
      rw[take_snoc ey]at Mb;rcases List.mem_append.mp Mb with q|q
      ·exact⟨(qw y' q).1,abB _ (qw y' q).2⟩
      ·have:y'=y:=by simpa using q
       subst this;exact⟨eg,hy⟩
     cases ev:cL j0 (Sum.inl y) with
     | some o1 =>
      refine eL ?_;exact⟨Px,Vo,j0,Y,B5,Tn,hz5,Vq j0 (λ_ q=>q) (by unfold seen;rw[ev];rfl),YT,hk5⟩
     | none =>
      refine iX ?_;have kll:=B5.kl;refine⟨Y,Y,S,Y,vM.k (k:=Sum.inl y) B5.hS (aQ ∅),?_⟩;have e6:∀ {v:V} {ns:List Int},fF (λa=>a=W\/a=S) H5 v ns->fF (λa=>a=W\/a=S) (aN H5 S (.dK (dc j0 (Sum.inl y) (.bl true)))) v ns:=λh=>h.at _ (.inr rfl);have s6:aI H (aN H5 S (.dK (dc j0 (Sum.inl y) (.bl true)))):=bH H0S B5.sm (aG S _ _);have Rl:(aN H5 S (.dK (dc j0 (Sum.inl y) (.bl true)))) W=⇑(.lst Px):=by rw[aL Vk];exact B5.hW
      have abC:(aN H5 S (.dK (dc j0 (Sum.inl y) (.bl true)))) wa=⇑(.lst ((w1++[e]).map V.int)):=by rw[aL (λq=>afw (.inr q))];exact Vp
      have XN:(aN H5 S (.dK (dc j0 (Sum.inl y) (.bl true)))) S=⇑(.dK (dc j0 (Sum.inl y) (.bl true))):=af;generalize aN H5 S (.dK (dc j0 (Sum.inl y) (.bl true)))=H6 at e6 s6 Rl abC XN;have vl:Px.length<sizeLine:=aQ (by simp only[jS]at hml;lia);refine⟨Y,.inl ⟨rfl,_,bG.of Rl⟩,Y,Y,ku,λb1 DV=>⟨wa,b1,Z,ak DV _ _ _ abC,af,gG (aQ (by rw[cB];simp at wl0 ⊢;lia)),λo ho=>⟨W,Z,ak ho _ _ _ (ak DV _ _ _ Rl),vl,?_⟩⟩⟩;have s7:aI H6 (aN H6 b1 (.lst [.int y])):=ak DV _;have s8:=s7.trans (ak ho (.lst ((w1++[e]).map V.int++[.int y])));have noW:o≠W:=(aA (s7 _ _ Rl) ho).symm;have noS:o≠S:=(aA (s7 _ _ XN) ho).symm;have e9:∀ {v:V} {ns:List Int},fF (λa=>a=W\/a=S) H5 v ns->fF (λa=>a=W\/a=S) (aN (aN (aN H6 b1 (.lst [.int y])) o (.lst ((w1++[e]).map V.int++[.int y]))) W (.lst (Px++[↥o]))) v ns:=λh=>((e6 h).same s8).at _ (.inl rfl);have mp:=F4 (n:=↑rows) (.bl true) y0 y1 ev;have pl:↑(dc j0 (Sum.inl y) (.bl true))=↑j0+1:=by rw[Aj _ ev];simp
      have mono:∀ x,seen j0 x->seen (dc j0 (Sum.inl y) (.bl true)) x:=λx q=>(rF _).mpr (.inr q);have sy:seen (dc j0 (Sum.inl y) (.bl true)) y:=(rF _).mpr (.inl rfl);exists Px++[↥o],Vo++[w1++[e]++[y]],dc j0 (Sum.inl y) (.bl true),Y,⟨af,cj.snoc (B5.hl.mono λ_ _ h=>e9 h) ⟨o,rfl,λq=>q.elim noW noS,?_⟩,?_,bH Tj (s6.trans s8) (aG W _ _),?_,?_,?_⟩,e9 Tn,e9 hz5,Vq _ mono sy,?_
      ·rw[aL noW,af,gE (l₁:=w1++[e])];rfl
      ·rw[aL Vk.symm];exact s8 _ _ XN
      ·intro w hw;rcases List.mem_append.mp hw with q|q
       ·let⟨q1,q2,q3⟩:=B5.wk w q;exact⟨q1,by lia,q3⟩
       ·have:w=w1++[e]++[y]:=by simpa using q
        subst this;refine⟨wkw.snoc hle HY,?_,y,by simp,y0,y1⟩;rw[cT,gV,pl];lia
      ·lia
      ·intro x hx
       have old:(x=s\/seen j0 x)->(∃ w∈Vo++[w1++[e]++[y]],w.getLast?=⇑x)\/x=e\/∀ y_1,gO rows x y_1->y_1≠g/\seen (dc j0 (Sum.inl y) (.bl true)) y_1:=λq=>by
        rcases B5.cl x q with ⟨w,hw,hl⟩|q|q
        ·exact .inl ⟨w,tM _ hw,hl⟩
        ·exact .inr (.inl q)
        ·exact .inr (.inr λy' Mb=>⟨(q y' Mb).1,mono _ (q y' Mb).2⟩)
       rcases hx with q|q
       ·exact old (.inl q)
       ·rcases (rF _).mp q with rfl|q'
        ·exact .inl ⟨w1++[e]++[x],by simp,by simp⟩
        ·exact old (.inr q')
      ·rw[cT,gV];lia
      ·lia
   ·rintro σ H5 ⟨Px,Vo,j0,v,rfl,B5,Tn,hz5,qw,YT,hk5⟩;rw[cB,gH]at qw
    have B6:Bfs rows H W S s g (λ_=>False) H5 Px Vo j0:=⟨B5.hW,B5.hl,B5.hS,B5.sm,B5.wk,B5.kl,λx hx=>by
     rcases B5.cl x hx with q|rfl|q
     ·exact .inl q
     ·refine .inr (.inr λy hy=>qw y ?_);let⟨_,tV,CK,Mb⟩:=hy;rw[eV]at CK;cases CK;exact Mb
     ·exact .inr (.inr q)⟩
    simp only[jS]at hml;refine⟨⟨Px,Vo,j0,E,rfl,B6,by lia⟩,?_⟩;rw[Pr B6.hW B6.hS,jS];lia
class inductive XO
 | mk (r:Addr) (s:Int) (_:vs=[↥r,.int s]) (_:Vm [↥r,.int s,.int s] H Q E)
theorem XQ:aF ["rows","sheet"] ["rows","sheet"] (az OE):=eO
theorem Tp:‹(3,14,["rows","sheet"],XO)›:=λD=>by
 specialize eS D.aaH.F XQ;let⟨r,s,rfl,h⟩:=h;exists _,(au (aJ (aH D.Xm (rM D) hr (aa (pv 0) (aa (pv 1) (aa (pv 1) ah))))));exists Y,Y,Y;let⟨r',rows,s',g,e,h1,h2,h3,h4,h5,h6,kY,kN⟩:=h;cases e;exact⟨r,rows,s,s,rfl,h1,h2,h3,h4,h5,h6,kY,kN⟩
def kC(f:Int->Int)(es:List Int):Int:=(es.map λe=>if e<0 then 1+f (-1-e) else 1).sum
def D7(f:Int->Int):aS->Int
 | .win n=>1+f n
 | .aK a b=>b-a
def Gm(f:Int->Int)(aP:List aS):Int:=(aP.map (D7 f)).sum
def mQ(f:Int->Int)(a b:List aS):Gm f (a++b)=Gm f a+Gm f b:=by unfold Gm;rw[gE,List.sum_append]
def Py(f:Int->Int)(t:List aS)(e:Int):Gm f (bg t e)=Gm f t+(if e<0 then 1+f (-1-e) else 1):=by
 unfold bg;by_cases h:e<0
 ·rw[if_pos h,if_pos h,mQ];simp[Gm,D7]
 ·rw[if_neg h,if_neg h];rcases qG t with rfl|⟨t',l,rfl⟩
  ·simp[Gm,D7];lia
  ·rw[nK,tN]
   cases l with
   | win n =>
    show Gm f (t'++[aS.win n]++[.aK e (e+1)])=_;rw[mQ];simp[Gm,D7];lia
   | aK a b =>
    show Gm f (if b=e then (t'++[aS.aK a b]).dropLast++[.aK a (e+1)] else (t'++[aS.aK a b])++[.aK e (e+1)])=_;by_cases hb:b=e
    ·rw[if_pos hb,List.dropLast_concat,mQ,mQ];simp[Gm,D7];lia
    ·rw[if_neg hb,mQ];simp[Gm,D7];lia
def MR(f:Int->Int)(es:List Int):Gm f (aC es)=kC f es:=by
 have z:∀ t:List aS,Gm f (es.foldl bg t)=Gm f t+kC f es:=by
  induction es with
  | nil=>intro t;simp[kC]
  | cons e es ih =>
   intro t;rw[mh,ih,Py];unfold kC;rw[jy,List.sum_cons];lia
 have:=z [];unfold aC;rw[this];simp[Gm]
def Weighs(rows:cJ)(f:Int->Int):Prop:=∀ (x:Int) (es:List Int),0<=x->rows[x.toNat]?=⇑es->f x=kC f es
def wF(rows:cJ):Nat->Int->Int
 | 0,_=>0
 | k+1,x=>match rows[x.toNat]? with
  | some es=>kC (wF rows k) es
  | none=>0
def Jx{f g:Int->Int}{es:List Int}(h:∀ y∈dM es,f y=g y):kC f es=kC g es:=by
 unfold kC;congr 1;refine List.map_congr_left λe he=>?_;by_cases c:e<0
 ·rw[if_pos c,if_pos c,h (-1-e) (cD.mpr ⟨by lia,by rw[show -1-(-1-e)=e by lia];exact he⟩)]
 ·rw[if_neg c,if_neg c]
def MS{rows:cJ}(h:Bq rows):∃ f,Weighs rows f:=by
 let⟨rk,hb,hd⟩:=h
 have key:∀ (k:Nat) (x:Int),0<=x->rk x<k->wF rows k x=wF rows (k+1) x:=by
  intro k
  induction k with
  | zero=>intro x _ h;lia
  | succ k ih =>
   intro x x0 hx
   cases e:rows[x.toNat]? with
   | none=>simp[wF,e]
   | some es =>
    have e1:wF rows (k+1) x=kC (wF rows k) es:=by simp[wF,e]
    have e2:wF rows (k+1+1) x=kC (wF rows (k+1)) es:=by
     show (match rows[x.toNat]? with|some es=>kC (wF rows (k+1)) es|none=>0)=_;rw[e]
    rw[e1,e2];refine Jx λy hy=>ih y (cD.mp hy).1 ?_;have:=hd x y ⟨x0,es,e,hy⟩;lia
 refine⟨wF rows 41,λx es x0 he=>?_⟩;rw[key 41 x x0 (by have:=hb x;lia)];show (match rows[x.toNat]? with|some es=>kC (wF rows 41) es|none=>0)=_;rw[he]
class inductive afy
 | mk (v:V) (it:aS) (S:Addr) (kvs:List (dN × V)) (f:Int->Int) (_:vs=[v,↥S]) (_:cS H v it) (_:H S=⇑(.dK kvs)) (_:(∀ n,it=.win n->cL kvs (Sum.inl n)=⇑(.int (f n)))) (_:Q (.int (D7 f it)) H)
theorem BG:aF ["item","weights"] ["item","weights"] (az pK):=eO
theorem AA:‹(1,15,["item","weights"],afy)›:=λD=>by
 specialize eS D.aaI.F BG;let⟨v,it,S,kvs,f,rfl,⟨a,rfl,ha⟩,hS,hw,k⟩:=h;have hu:=gT hr;exists _,(aj (bO (aV dY (aO aW (pv 0) ay) bI (bh _)) (au (aJ (bz dH ay (kq hu (pv 1) (aO aW (pv 0) ay))))) br) (au (aJ (bz cY (aO aW (pv 0) ay) (aO aW (pv 0) ay)))))
 cases it with
 | win n =>
  refine⟨Y,a,Q,K,cW.of ha,K,Y,cR (λ_=>?_) (λz=>absurd (by decide) z)⟩;have z:=jj.k (k:=Sum.inl n) hS;rw[hw n rfl]at z;exact⟨Y,Y,a,Q,K,cW.of ha,rfl,S,Y,z,Z,k⟩
 | aK p q =>
  refine⟨Y,a,Q,K,cW.of ha,K,Y,cR (λz=>absurd z (by decide)) (λ_=>?_)⟩;exact⟨Y,a,Q,K,cW.of ha,rfl,Y,a,Q,K,cW.of ha,rfl,Z,k⟩
class inductive Jy
 | mk (r L:Addr) (rows:cJ) (ss:List Int) (f:Int->Int) (_:vs=[↥r,↥L]) (_:gc H r (rows.map aC)) (_:H L=⇑(.lst (ss.map V.int))) (_:↑ss<=1000) (_:↑rows<=1000) (_:(∀ es∈rows,↑es<=1000)) (_:gf rows) (_:Bq rows) (_:(∀ s∈ss,0<=s/\s<↑rows)) (_:Weighs rows f) (_ :
 ∀ (S:Addr) (kvs:List (dN × V)) (H':Hp),H' S=⇑(.dK kvs)->(∀ s∈ss,cL kvs (Sum.inl s)=⇑(.int (f s)))->aI H H'->H S=none->Q ↥S H')
theorem ly:aF ["rows","sheets","weights","number"] ["rows","sheets"] (az jE):=eO
theorem xP:‹(3,16,["rows","sheets"],Jy)›:=λD=>by
 refine eS D.aaJ.F ly λcU A zn s0 H vs Q E hr h=>?_;let⟨r,L,rows,ss,f,rfl,hR,hL,hsl,dJ,hes,pC,yV,hin,hf,k⟩:=h;have hu:=gT hr;refine⟨_,(aj (aZ (i:=2) ly.nd ko) (aj (dX PassesOwn.never rfl (cu (aH D.Xl (Gk D) hr (aa (pv 0) (aa (pv 1) ah)))) (bQ (i:=3) ly.nd) (au (lR hu (pv 2) (pv 3) (bY (FE rfl) rfl D.T.Vb PyProof.Rows.boot_sum (aa (gI (N:=["item","weights"]) (jI (sc:=az jE) (NX:=["rows","sheets","weights","number"]) (jx:=[none,some 2]) rfl rfl rfl nofun nofun rfl nofun rfl nofun) rfl (cu (aO bu (pv 0) (pv 3))) (λ_ _ _ _ _ _=>(bQ (i:=0) (show List.Nodup (["item","weights"]:List Str) by decide +kernel))) (λ_ _ _ _ _ _=>fZ) (λ_ _ _ _ _ _=>(aH D.aaI (AA D) hr (aa (pv 0) (aa (pv 1) ah))))) ah)) rfl))) (au (aJ (pv 2))))),?_⟩;intro S hS;have s1:aI H (aN H S (.dK [])):=ak hS _;refine⟨Y,Y,r,L,rows,ss,rfl,hR.same s1,s1 _ _ hL,hsl,dJ,hes,pC,yV,hin,λks o H2 ho s2 tp sk kl ZN=>?_⟩;have Xa:=s2 _ _ (af (H:=H) (a:=S) (o:=.dK []));have noS:o≠S:=(aA af ZN).symm;refine⟨o,rfl,⟨_,bG.of ho⟩,dB (K:=K) (a:=o) (xs:=ks.map V.int) (λi σ H3=>∃ (kvs:List (dN × V)) (u:Option V),σ=[⇑↥r,⇑↥L,⇑↥S,u]/\H3 S=⇑(.dK kvs)/\(∀ y∈ks.take i,cL kvs (Sum.inl y)=⇑(.int (f y)))/\↑kvs<=i/\(∀ a ob,a≠S->H2 a=⇑ob->H3 a=⇑ob)) ⟨[],none,rfl,Xa,(λy hy=>by simp at hy),fK _,λ_ _ _ e=>e⟩ ?_ ?_ ?_⟩
 ·rintro i σ H3 _ ⟨_,_,_,_,_,_,k3⟩;exact bG.of (k3 o _ noS ho)
 ·rintro i x σ H3 hi ⟨kvs,u,rfl,MQ,NP,hk3,k3⟩;rw[mY]at hi;let⟨x,ex,rfl⟩:=Option.map_eq_some_iff.mp hi;let⟨x0,x1⟩:=tp.Fd x (nJ ex);obtain⟨es,eV⟩:∃ es,rows[x.toNat]?=⇑es:=⟨_,tK ∅⟩;have XJ:=hes es (nJ eV);have Pu:aI H H3:=λa ob e=>k3 a ob (aA e hS) (s2 _ _ (s1 _ _ e));let⟨qL,Jv,rL⟩:=hR.same Pu;let⟨vi,D6,hI⟩:=rL.get' (i:=x.toNat) (b:=aC es) (by rw[mY,eV];rfl);let⟨b,Rk,rfl,hb,uU⟩:=id hI;have hil:=oV es []
  have alq:↑(aC es)<=1000:=by
   show ↑(es.foldl bg [])<=_;simp only[lM]at hil;lia
  have vX:qJ qL x=⇑↥b:=by
   have z:=dm D6;rw[show ((x.toNat:Nat):Int)=x by lia]at z;exact z
  refine⟨Y,Y,r,Q,K,bG.of Jv,vX,b,rfl,⟨_,bG.of hb⟩,λacc cP=>fE (K:=K) (a:=b) (xs:=Rk) (λj σ H5=>∃ u:Option V,σ=[u,⇑↥S]/\H5 acc=⇑(.lst ((((aC es).take j).map (D7 f)).map V.int))/\aI H3 H5) ⟨none,rfl,af,ak cP _⟩ (λj σ H5 _ ⟨Q,s5⟩=>bG.of (s5 _ _ hb)) ?_ ?_⟩
  ·rintro j v σ H5 hj ⟨u,rfl,h5,s5⟩;let⟨it,ei,hiv⟩:=uU.get hj;have st:=take_snoc ei;unfold qU Mp;refine iX ⟨Y,Y,v,it,S,kvs,f,rfl,hiv.same s5,s5 _ _ MQ,λn hn=>?_,?_⟩
   ·subst hn;refine NP n (tp.dn i x ex n ⟨x0,es,eV,?_⟩);rw[← iI];unfold eZ;rw[List.mem_filterMap];exact⟨.win n,nJ ei,rfl⟩
   ·refine⟨_,h5,(by rw[cB,cB,gr];exact aQ ∅),Y,?_,bH cP s5 (aG acc _ _)⟩;rw[af,st,gE,gE];rfl
  ·rintro σ H5 ⟨u,rfl,h5,s5⟩;rw[uU.len,gH]at h5;have es1:((aC es).map (D7 f)).sum=f x:=by rw[hf x es x0 eV];exact MR f es
   have hS5:=s5 _ _ MQ
   have kvl:i<↑ks:=by
    rcases Nat.lt_or_ge i ↑ks with q|q
    ·exact q
    ·rw[List.getElem?_eq_none q]at ex;cases ex
   exists acc,Y,bG.of h5;rw[es1];refine⟨Y,Y,S,Y,vM.k (k:=Sum.inl x) hS5 (aQ ∅),?_⟩;refine⟨dc kvs (Sum.inl x) (.int (f x)),Y,af,λy hy=>?_,?_,λa ob n e=>?_⟩
   ·rw[kj];rw[take_snoc ex]at hy;by_cases c:y=x
    ·rw[if_pos (by rw[c]),c]
    ·rw[if_neg (λz=>c (Sum.inl.inj z))];rcases List.mem_append.mp hy with q|q
     ·exact NP y q
     ·exact absurd (by simpa using q) c
   ·have:=gb kvs (Sum.inl x) (V.int (f x));lia
   ·rw[aL n];exact s5 _ _ (k3 a ob n e)
 ·rintro σ H3 ⟨kvs,u,rfl,MQ,NP,hk3,k3⟩;rw[cB,gH]at NP;exact⟨Y,k S kvs H3 MQ (λs hs=>NP s (sk s hs)) (λa ob e=>k3 a ob (aA e hS) (s2 _ _ (s1 _ _ e))) hS⟩
def qx(g:Int->Row):aS->Row
 | .win n=>g n
 | .aK a b=>[(a,b)]
def aX(sh:Int->List Int)(e:Int):List Int:=if e<0 then sh (-1-e) else [e]
def aU(sh:Int->List Int)(es:List Int):List Int:=es.flatMap (aX sh)
def kF(rows:cJ)(sh:Int->List Int):Prop:=∀ (x:Int) (es:List Int),0<=x->rows[x.toNat]?=⇑es->sh x=aU sh es
def bx(sh:Int->List Int)(aP:List aS):Row:=aP.flatMap (qx λn=>cF (sh n))
def uf(t:List aS):Prop:=∀ a b,aS.aK a b∈t->a<b
def eG(sh:Int->List Int)(a b:List aS):bx sh (a++b)=bx sh a++bx sh b:=by unfold bx;rw[yQ]
def jm(sh:Int->List Int)(it:aS):bx sh [it]=qx (λn=>cF (sh n)) it:=by simp[bx]
def MT(sh:Int->List Int)(t:List aS)(e:Int)(ok:uf t):bK (bx sh (bg t e))=bK (bx sh t)++aX sh e/\uf (bg t e):=by
 have add:∀ it:aS,(∀ a b,it=.aK a b->a<b)->uf (t++[it]):=λit h a b hm=>by
  rcases List.mem_append.mp hm with z|z
  ·exact ok a b z
  ·exact h a b (List.mem_singleton.mp z).symm
 unfold bg;by_cases h:e<0
 ·rw[if_pos h];refine⟨?_,add _ λa b z=>by cases z⟩;rw[eG,cZ,jm];show _++bK (cF (sh (-1-e)))=_;rw[dz];unfold aX;rw[if_pos h]
 ·rw[if_neg h]
  have one:bK [(e,e+1)]=[e]:=by
   rw[gw];unfold jG;have:(e+1-e).toNat=1:=by lia
   show run e (e+1-e).toNat=_;rw[this];rfl
  have es1:aX sh e=[e]:=by unfold aX;rw[if_neg h]
  have vY:bK (bx sh (t++[.aK e (e+1)]))=bK (bx sh t)++aX sh e/\uf (t++[.aK e (e+1)]):=by
   refine⟨?_,add _ λa b z=>by cases z;lia⟩;rw[eG,cZ,jm,es1];show _++bK [(e,e+1)]=_;rw[one]
  rcases qG t with rfl|⟨t',l,rfl⟩
  ·exact vY
  ·rw[nK]at ok add vY ⊢;rw[tN]
   cases l with
   | win n=>exact vY
   | aK a b =>
    show bK (bx sh (if b=e then (t'++[aS.aK a b]).dropLast++[.aK a (e+1)] else (t'++[aS.aK a b])++[.aK e (e+1)]))=_/\uf (if b=e then (t'++[aS.aK a b]).dropLast++[.aK a (e+1)] else (t'++[aS.aK a b])++[.aK e (e+1)]);by_cases hb:b=e
    ·subst hb;have ab:=ok a b (by simp);rw[if_pos rfl,List.dropLast_concat];refine⟨?_,λp q hm=>?_⟩
     ·rw[eG,eG,cZ,cZ,jm,jm,es1,m8];congr 1;show bK [(a,b+1)]=bK [(a,b)]++[b];rw[gw,gw];unfold jG;show run a (b+1-a).toNat=run a (b-a).toNat++[b];have:(b+1-a).toNat=(b-a).toNat+1:=by lia
      rw[this,oU];congr 2;lia
     ·rcases List.mem_append.mp hm with z|z
      ·exact ok p q (tM _ z)
      ·have z':aS.aK p q=aS.aK a (b+1):=by simpa using z
       cases z';lia
    ·rw[if_neg hb];exact vY
def AB(sh:Int->List Int)(es:List Int):bK (bx sh (aC es))=aU sh es/\uf (aC es):=by
 have z:∀ t:List aS,uf t->bK (bx sh (es.foldl bg t))=bK (bx sh t)++aU sh es/\uf (es.foldl bg t):=by
  induction es with
  | nil=>intro t ok;exact⟨by simp[aU],ok⟩
  | cons e es ih =>
   intro t ok;let⟨h1,h2⟩:=MT sh t e ok;let⟨h3,h4⟩:=ih _ h2;refine⟨?_,h4⟩;rw[mh,h3,h1,m8];unfold aU;rw[iT]
 have q:=z [] (λa b h=>by cases h);refine⟨?_,q.2⟩;unfold aC;rw[q.1];rfl
def MU(sh:Int->List Int)(it:aS)(h:∀ a b,it=.aK a b->a<b):↑(qx (λn=>cF (sh n)) it)<=↑(bK (qx (λn=>cF (sh n)) it)):=by
 cases it with
 | win n =>
  show ↑(cF (sh n))<=↑(bK (cF (sh n)));rw[dz];have z:=FJ (sh n) [];simpa [cF] using z
 | aK a b =>
  have ab:=h a b rfl;show 1<=↑(bK [(a,b)]);rw[gw];unfold jG;show 1<=↑(run a (b-a).toNat);rw[vQ];lia
theorem uZ(sh:Int->List Int):∀ aP:List aS,uf aP->↑(bx sh aP)<=↑(bK (bx sh aP))
 | [],_=>by simp[bx]
 | it::aP,h=>by
  have e:bx sh (it::aP)=qx (λn=>cF (sh n)) it++bx sh aP:=by unfold bx;rw[iT]
  rw[e,cZ,cT,cT];have a:=MU sh it (λa b z=>h a b (by rw[← z];simp));have b:=uZ sh aP (λa b z=>h a b (nI _ z));lia
def MV(sh:Int->List Int)(aP:List aS)(h:uf aP):∀ p∈bx sh aP,p.1<=p.2:=by
 intro p hp;unfold bx at hp;let⟨it,hi,hm⟩:=List.mem_flatMap.mp hp
 cases it with
 | win n=>exact jH _ p hm
 | aK a b =>
  have:p=(a,b):=by simpa [qx] using hm
  subst this;have:=h a b hi;show a<=b;lia
class inductive MW
 | mk (v:V) (it:aS) (S:Addr) (kvs:List (dN × V)) (g:Int->Row) (_:vs=[v,↥S]) (_:cS H v it) (_:H S=⇑(.dK kvs)) (_:(∀ n,it=.win n->∃ a,cL kvs (Sum.inl n)=⇑↥a/\bW H a (g n))) (_ :
 ∀ (a:Addr) (H':Hp),bW H' a (qx g it)->aI H H'->((∃ n,it=.win n/\cL kvs (Sum.inl n)=⇑↥a)\/H a=none)->Q ↥a H')
theorem Jz:aF ["item","views"] ["item","views"] (az xg):=eO
theorem yG:‹(1,17,["item","views"],MW)›:=λD=>by
 specialize eS D.Xn.F Jz;let⟨v,it,S,kvs,g,rfl,⟨a,rfl,ha⟩,hS,hw,k⟩:=h;have hu:=gT hr;exists _,(aj (bO (aV dY (aO aW (pv 0) ay) bI (bh _)) (au (aJ (kq hu (pv 1) (aO aW (pv 0) ay)))) br) (au (aJ (bL (aa (cH (aa (aO aW (pv 0) ay) (aa (aO aW (pv 0) ay) ah))) ah)))))
 cases it with
 | win n =>
  refine⟨Y,a,Q,K,cW.of ha,K,Y,cR (λ_=>?_) (λz=>absurd (by decide) z)⟩;let⟨b,hb,Rb⟩:=hw n rfl;have z:=jj.k (k:=Sum.inl n) hS;rw[hb]at z;exact⟨Y,Y,a,Q,K,cW.of ha,rfl,S,Y,z,k b H Rb (aI.refl H) (.inl ⟨n,rfl,hb⟩)⟩
 | aK p q =>
  refine⟨Y,a,Q,K,cW.of ha,K,Y,cR (λz=>absurd z (by decide)) (λ_=>?_)⟩;refine⟨Y,a,Q,K,cW.of ha,rfl,Y,a,Q,K,cW.of ha,rfl,oX,λt ht=>⟨ku,λl hl=>?_⟩⟩;have s1:aI H (aN H t (.tup [.int p,.int q])):=ak ht _;have s2:=s1.trans (ak hl (.lst [↥t]));refine k l _ ⟨[t],af,.cons ?_ .nil⟩ s2 (.inr ?_)
  ·exact ak hl _ _ _ af
  ·cases e:H l with
   | none=>rfl
   | some o=>exact absurd ((s1 _ _ e).symm.trans hl) (by simp)
theorem bM.Gn{H H':Hp}{S:Addr}{kvs:List (dN × V)}(hS:H S=⇑(.dK kvs))(k:∀ a ob,a≠S->H a=⇑ob->H' a=⇑ob):∀ {as:List Addr} {r:Row},bM H as r->bM H' as r
 | _,_,.nil=>.nil
 | _,_,.cons r t=>.cons (k _ _ (λz=>by
   have r':=r;unfold rD at r';rw[z,hS]at r'
   cases r') r) (bM.Gn hS k t)
def bW.Gn{H H':Hp}{S a:Addr}{kvs:List (dN × V)}{row:Row}(hS:H S=⇑(.dK kvs))(n:a≠S)(k:∀ a ob,a≠S->H a=⇑ob->H' a=⇑ob)(R:bW H a row):bW H' a row:=by
 let⟨as,h,p⟩:=R;exact⟨as,k _ _ n h,p.Gn hS k⟩
def Lm(H:Hp)(kvs:List (dN × V))(sh:Int->List Int)(xs:List Int):Prop:=∀ x∈xs,∃ a,cL kvs (Sum.inl x)=⇑↥a/\bW H a (cF (sh x))
class inductive Tq
 | mk (r L:Addr) (rows:cJ) (ss:List Int) (sh:Int->List Int) (_:vs=[↥r,↥L]) (_:gc H r (rows.map aC)) (_:H L=⇑(.lst (ss.map V.int))) (_:↑ss<=1000) (_:↑rows<=1000) (_:(∀ es∈rows,↑es<=1000)) (_:gf rows) (_:Bq rows) (_:(∀ s∈ss,0<=s/\s<↑rows)) (_:kF rows sh) (_:(∀ x:Int,0<=x->x<↑rows->↑(sh x)<=10000)) (_ :
 ∀ (S:Addr) (kvs:List (dN × V)) (ks:List Int) (H':Hp),H' S=⇑(.dK kvs)->Lm H' kvs sh ks->MP rows ks->(∀ s∈ss,s∈ks)->(∀ x∈ks,∀ a,cL kvs (Sum.inl x)=⇑↥a->H a=none)->aI H H'->H S=none->Q ↥S H')
theorem ou:aF ["rows","sheets","views","number"] ["rows","sheets"] (az lQ):=eO
theorem jK:‹(3,18,["rows","sheets"],Tq)›:=λD=>by
 refine eS D.Pf.F ou λcU A zn s0 H vs Q E hr h=>?_;let⟨r,L,rows,ss,sh,rfl,hR,hL,hsl,dJ,hes,pC,yV,hin,yz,E7,k⟩:=h;have hu:=gT hr;refine⟨_,(aj (aZ (i:=2) ou.nd ko) (aj (dX PassesOwn.never rfl (cu (aH D.Xl (Gk D) hr (aa (pv 0) (aa (pv 1) ah)))) (bQ (i:=3) ou.nd) (au (lR hu (pv 2) (pv 3) (aH D.Vc (mP D) hr (aa (xK (N:=["item","stretch","views"]) (jI (sc:=az lQ) (NX:=["rows","sheets","views","number"]) (jx:=[none,none,some 2]) rfl rfl rfl nofun nofun rfl nofun rfl nofun) rfl (cu (aO bu (pv 0) (pv 3))) (λ_ _ _ _ _ _=>(bQ (i:=0) (show List.Nodup (["item","stretch","views"]:List Str) by decide +kernel))) (λ_ _ _ _ _ _=>fZ) (λ_ _ _ _ _ _=>(F0 (aH D.Xn (yG D) hr (aa (pv 0) (aa (pv 2) ah))))) (λ_ _ _ _ _ _=>(bQ (i:=1) (show List.Nodup (["item","stretch","views"]:List Str) by decide +kernel))) (λ_ _ _ _ _ _=>fZ) (λ_ _ _ _ _ _=>(pv 1))) ah)) rfl))) (au (aJ (pv 2))))),?_⟩;intro S hS;have s1:aI H (aN H S (.dK [])):=ak hS _;refine⟨Y,Y,r,L,rows,ss,rfl,hR.same s1,s1 _ _ hL,hsl,dJ,hes,pC,yV,hin,λks o H2 ho s2 tp sk kl ZN=>?_⟩;have Xa:=s2 _ _ (af (H:=H) (a:=S) (o:=.dK []));have noS:o≠S:=(aA af ZN).symm;refine⟨o,rfl,⟨_,bG.of ho⟩,dB (K:=K) (a:=o) (xs:=ks.map V.int) (λi σ H3=>∃ (kvs:List (dN × V)) (u:Option V),σ=[⇑↥r,⇑↥L,⇑↥S,u]/\H3 S=⇑(.dK kvs)/\Lm H3 kvs sh (ks.take i)/\↑kvs<=i/\(∀ x a,cL kvs (Sum.inl x)=⇑↥a->H a=none/\a≠S)/\(∀ a ob,a≠S->H2 a=⇑ob->H3 a=⇑ob)) ⟨[],none,rfl,Xa,(λy hy=>by simp at hy),fK _,(λx a e=>by cases e),λ_ _ _ e=>e⟩ ?_ ?_ ?_⟩
 ·rintro i σ H3 _ ⟨_,_,_,_,_,_,_,k3⟩;exact bG.of (k3 o _ noS ho)
 ·rintro i x σ H3 hi ⟨kvs,u,rfl,MQ,NP,hk3,hn3,k3⟩;rw[mY]at hi;let⟨x,ex,rfl⟩:=Option.map_eq_some_iff.mp hi;let⟨x0,x1⟩:=tp.Fd x (nJ ex);obtain⟨es,eV⟩:∃ es,rows[x.toNat]?=⇑es:=⟨_,tK ∅⟩;have Pu:aI H H3:=λa ob e=>k3 a ob (aA e hS) (s2 _ _ (s1 _ _ e));let⟨qL,Jv,rL⟩:=hR.same Pu;let⟨vi,D6,hI⟩:=rL.get' (i:=x.toNat) (b:=aC es) (by rw[mY,eV];rfl);let⟨b,Rk,rfl,hb,uU⟩:=id hI;let⟨Ma,hok⟩:=AB sh es;have shx:=yz x es x0 eV
  have i7:↑(bx sh (aC es))<=10000:=by
   have z:=uZ sh (aC es) hok;rw[Ma,← shx]at z;have:=E7 x x0 x1;lia
  have part:∀ j,↑(bx sh ((aC es).take j))<=10000:=λj=>by
   have e:bx sh (aC es)=bx sh ((aC es).take j)++bx sh ((aC es).drop j):=by rw[← eG,List.take_append_drop]
   rw[e,cT]at i7;lia
  have vX:qJ qL x=⇑↥b:=by
   have z:=dm D6;rw[show ((x.toNat:Nat):Int)=x by lia]at z;exact z
  refine⟨Y,Y,r,Q,K,bG.of Jv,vX,b,rfl,⟨_,bG.of hb⟩,λacc cP=>rE (K:=K) (a:=b) (xs:=Rk) (λj σ H5=>∃ (u v:Option V) (as:List Addr),σ=[u,v,⇑↥S]/\H5 acc=⇑(.lst (as.map V.ref))/\bM H5 as (bx sh ((aC es).take j))/\aI H3 H5) ⟨none,none,[],rfl,af,.nil,ak cP _⟩ (λj σ H5 _ ⟨Q,Q,s5⟩=>bG.of (s5 _ _ hb)) ?_ ?_⟩
  ·rintro j v σ H5 hj ⟨u,u2,as,rfl,h5,p5,s5⟩;let⟨it,ei,hiv⟩:=uU.get hj;have st:bx sh ((aC es).take (j+1))=bx sh ((aC es).take j)++qx (λn=>cF (sh n)) it:=by rw[take_snoc ei,eG,jm]
   refine Ss ?_;refine iX ?_;refine⟨Y,Y,v,it,S,kvs,(λn=>cF (sh n)),rfl,hiv.same s5,s5 _ _ MQ,λn hn=>?_,λa2 H6 R6 s6 hor=>?_⟩
   ·subst hn
    let⟨a,ha,Ra⟩:=NP n (tp.dn i x ex n ⟨x0,es,eV,by
     rw[← iI];unfold eZ;rw[List.mem_filterMap]
     exact⟨.win n,nJ ei,rfl⟩⟩)
    exact⟨a,ha,Ra.same s5⟩
   let⟨XR,h6a,p6⟩:=id R6
   have na2:a2≠acc:=by
    rcases hor with ⟨n,hn,hv⟩|hn
    ·subst hn
     let⟨a,ha,as0,h0',_⟩:=NP n (tp.dn i x ex n ⟨x0,es,eV,by
      rw[← iI];unfold eZ;rw[List.mem_filterMap]
      exact⟨.win n,nJ ei,rfl⟩⟩)
     rw[hv]at ha;cases ha;exact aA h0' cP
    ·exact (aA h5 hn).symm
   have h6:=s6 _ _ h5;have pl:=part (j+1);rw[st,cT]at pl;have al:=p5.len;have al2:=p6.len;refine⟨a2,rfl,⟨_,bG.of h6a⟩,Ao (K:=K) (a:=a2) (acc:=acc) (g:=qU 1) (tt:=Mp) (te:=RG 1) (xs:=XR.map V.ref) (λl σ H7=>∃ v2:Option V,σ=[⇑v,v2,⇑↥S]/\H7 acc=⇑(.lst ((as++XR.take l).map V.ref))/\bM H7 (as++XR.take l) (bx sh ((aC es).take j)++(qx (λn=>cF (sh n)) it).take l)/\cz acc H6 H7/\aI H3 H7) ?_ ?_ ?_ ?_⟩
   ·exact⟨u2,rfl,(by simpa using h6),(by simpa using p5.same s6),(λ_ _ e _=>e),s5.trans s6⟩
   ·rintro l σ H7 _ ⟨_,_,_,_,K7,_⟩;exact bG.of (K7 a2 _ h6a na2)
   ·rintro l y σ H7 hl ⟨v2,rfl,h7,p7,K7,s7⟩;rw[mY]at hl;let⟨t,et,rfl⟩:=Option.map_eq_some_iff.mp hl;let⟨pr,epr,hpr⟩:=p6.get et
    have ll:l<XR.length:=by
     rcases Nat.lt_or_ge l XR.length with q|q
     ·exact q
     ·rw[List.getElem?_eq_none q]at et;cases et
    have abF:rD H7 t pr:=K7 t _ hpr (λz=>by
     have q:H6 acc=⇑(.tup [.int pr.1,.int pr.2]):=by rw[← z];exact hpr
     rw[h6]at q
     cases q)
    have K8:cz acc H7 (aN H7 acc (.lst ((as++XR.take l).map V.ref++[↥t]))):=aG acc _ _;refine Ss ?_;refine iX ?_;refine⟨Y,_,h7,?_,Y,?_,?_,?_,bH cP s7 K8⟩
    ·rw[cB,cT,gr];exact aQ ∅
    ·rw[af,take_snoc et,← m8,gE (l₁:=as++XR.take l)];rfl
    ·rw[take_snoc et,take_snoc epr,← m8,← m8]
     exact bM.snoc (p7.keep h7 K8) (K8 t _ abF (λz=>by
      have q:H7 acc=⇑(.tup [.int pr.1,.int pr.2]):=by rw[← z];exact abF
      rw[h7]at q
      cases q))
    ·exact λa ob e n=>K8 a ob (K7 a ob e n) n
   ·rintro σ H7 ⟨v2,rfl,h7,p7,K7,s7⟩;rw[cB,gH]at h7 p7;rw[al2,gH]at p7;exact⟨Q,rfl,h7,(by rw[st];exact p7),s7⟩
  ·rintro σ H5 ⟨u,u2,as,rfl,h5,p5,s5⟩;rw[uU.len,gH]at p5
   have kvl:i<↑ks:=by
    rcases Nat.lt_or_ge i ↑ks with q|q
    ·exact q
    ·rw[List.getElem?_eq_none q]at ex;cases ex
   refine⟨acc,Y,⟨as,h5,p5⟩,by lia,λq H6 R6 s6 hq=>?_⟩;have XN:=s6 _ _ (s5 _ _ MQ);have nqS:q≠S:=(aA (s5 _ _ MQ) hq).symm;have er:cy (bx sh (aC es))=cF (sh x):=by rw[vK _ (MV sh _ hok),Ma,shx]
   rw[er]at R6;have k7:∀ a ob,a≠S->H6 a=⇑ob->aN H6 S (.dK (dc kvs (Sum.inl x) ↥q)) a=⇑ob:=λa ob n e=>by rw[aL n];exact e
   refine⟨Y,Y,S,Y,vM.k (k:=Sum.inl x) XN (aQ ∅),?_⟩;refine⟨dc kvs (Sum.inl x) ↥q,Y,af,λy hy=>?_,?_,λy a e=>?_,λa ob n e=>k7 a ob n (s6 _ _ (s5 _ _ (k3 a ob n e)))⟩
   ·rw[kj];by_cases c:y=x
    ·rw[if_pos (by rw[c]),c];exact⟨q,rfl,R6.Gn XN nqS k7⟩
    ·rw[if_neg (λz=>c (Sum.inl.inj z))];rw[take_snoc ex]at hy;rcases List.mem_append.mp hy with z|z
     ·let⟨a,ha,Ra⟩:=NP y z;exact⟨a,ha,((Ra.same s5).same s6).Gn XN (hn3 y a ha).2 k7⟩
     ·exact absurd (by simpa using z) c
   ·have:=gb kvs (Sum.inl x) (V.ref q);lia
   ·rw[kj]at e;by_cases c:y=x
    ·rw[if_pos (by rw[c])]at e;cases e;refine⟨?_,nqS⟩
     cases z:H q with
     | none=>rfl
     | some ob=>exact absurd ((s5 _ _ (Pu _ _ z)).symm.trans hq) (by simp)
    ·rw[if_neg (λz=>c (Sum.inl.inj z))]at e;exact hn3 y a e
 ·rintro σ H3 ⟨kvs,u,rfl,MQ,NP,hk3,hn3,k3⟩;rw[cB,gH]at NP;exact⟨Y,k S kvs ks H3 MQ NP tp sk (λx _ a e=>(hn3 x a e).1) (λa ob e=>k3 a ob (aA e hS) (s2 _ _ (s1 _ _ e))) hS⟩
class inductive Tr
 | mk (r:Addr) (rows:cJ) (s:Int) (sh:Int->List Int) (_:vs=[↥r,.int s]) (_:gc H r (rows.map aC)) (_:↑rows<=1000) (_:(∀ es∈rows,↑es<=1000)) (_:gf rows) (_:Bq rows) (_:0<=s) (_:s<↑rows) (_:kF rows sh) (_:(∀ x:Int,0<=x->x<↑rows->↑(sh x)<=10000)) (_ :
 ∀ (o:Addr) (H':Hp),bW H' o (cF (sh s))->aI H H'->H o=none->Q ↥o H')
theorem Tt:aF ["rows","sheet"] ["rows","sheet"] (az IT):=eO
theorem Gp:‹(4,19,["rows","sheet"],Tr)›:=λD=>by
 refine eS D.Pg.F Tt λcU A zn s0 H vs Q E hr h=>?_;let⟨r,rows,s,sh,rfl,hR,dJ,hes,pC,yV,h0,h1,yz,E7,k⟩:=h;have hu:=gT hr;exists _,(au (aJ (kq hu (aH D.Pf (jK D) hr (aa (pv 0) (aa (bL (aa (pv 1) ah)) ah))) (pv 1))));refine⟨Y,Y,ku,λL hL=>?_⟩;have s1:aI H (aN H L (.lst [.int s])):=ak hL _;refine⟨r,L,rows,[s],sh,rfl,hR.same s1,af,(by simp),dJ,hes,pC,yV,(λx hx=>by rw[List.mem_singleton.mp hx];exact⟨h0,h1⟩),yz,E7,λS kvs ks H' hS hv tp sk hn s' _=>?_⟩;have sk:=sk s (by simp);let⟨a,ha,Ra⟩:=hv s sk;have z:=jj.k (k:=Sum.inl s) hS;rw[ha]at z;exact⟨Y,S,Y,z,k a H' Ra (s1.trans s') (aR s1 (hn s sk a ha))⟩
def XS:aS->aS->Bool
 | .aK _ b,.aK c _=>decide (b=c)
 | _,_=>false
class inductive XT
 | mk (x y:V) (i j:aS) (_:vs=[x,y]) (_:cS H x i) (_:cS H y j) (_:Q (.bl (XS i j)) H)
theorem MX:aF ["one","other"] ["one","other"] (az zV):=eO
theorem JA:‹(1,20,["one","other"],XT)›:=λD=>by
 specialize eS D.aaK.F MX;let⟨x,y,i,j,rfl,⟨a,rfl,ha⟩,⟨b,rfl,hb⟩,k⟩:=h;exists _,(au (aJ (uw (lN dY (aO aW (pv 0) ay) bI (bh _)) (uw (lN dY (aO aW (pv 1) ay) bI (bh _)) (wV (lN dY (aO aW (pv 0) ay) (aO aW (pv 1) ay) (bh _)))))))
 cases i with
 | win n=>exact⟨Y,a,Q,K,cW.of ha,K,Y,cR (λz=>absurd z (by decide)) (λ_=>k)⟩
 | aK p q =>
  refine⟨Y,a,Q,K,cW.of ha,K,Y,cR (λ_=>?_) (λz=>absurd (by decide) z)⟩
  cases j with
  | win n=>exact⟨Y,b,Q,K,cW.of hb,K,Y,cR (λz=>absurd z (by decide)) (λ_=>k)⟩
  | aK u v =>
   refine⟨Y,b,Q,K,cW.of hb,K,Y,cR (λ_=>?_) (λz=>absurd (by decide) z)⟩;exists Y,a,Q,K,cW.of ha,rfl,Y,b,Q,K,cW.of hb,K
   have e:decide (V.int q=V.int u)=decide (q=u):=by
    by_cases c:q=u
    ·rw[c];simp
    ·have c2:¬ V.int q=V.int u:=λz=>c (V.int.inj z);rw[decide_eq_false c,decide_eq_false c2]
   rw[e];exact k
def bT(t:List aS)(it:aS):List aS :=
 match t.getLast?,it with
 | some (.aK a b),.aK c d=>if b=c then t.dropLast++[.aK a d] else t++[it]
 | _,_=>t++[it]
def JB(aP:List aS):List aS:=aP.foldl bT []
def JC(aP:List aS):∀ t:List aS,↑(aP.foldl bT t)<=↑t+↑aP:=by
 induction aP with
 | nil=>intro t;simp
 | cons e aP ih =>
  intro t;rw[mh];have z:=ih (bT t e)
  have z2:↑(bT t e)<=↑t+1:=by
   unfold bT;split
   ·split
    ·rw[cT,List.length_dropLast,gV];lia
    ·simp
   ·simp
  rw[jS];lia
class inductive D8
 | mk (r:Addr) (aP:List aS) (_:vs=[↥r]) (_:bw H ↥r aP) (_:↑aP<=1000000) (_ :
 ∀ (o:Addr) (H':Hp),bw H' ↥o (JB aP)->aI H H'->H o=none->Q ↥o H')
theorem oz:aF ["items","told","item"] ["items"] (az pL):=eO
theorem iz:‹(2,21,["items"],D8)›:=λD=>by
 specialize eS D.MK.F oz;let⟨r,aP,rfl,⟨a,Rk,e,hr1,uU⟩,dJ,k⟩:=h;cases e;refine⟨_,(aj (aZ (i:=1) oz.nd (bL ah)) (aj (dX PassesOwn.never rfl (cu (pv 0)) (bQ (i:=2) oz.nd) (au (bO (PW.pt (kO (mq (pv 1) (λ_=>rfl)) (j6 (jz (aH D.aaK (JA D) hr (aa (aO bu (pv 1) (gv d7 ay)) (aa (pv 2) ah))))))) (au (mj (cH (aa bI (aa (aO aW (aO bu (pv 1) (gv d7 ay)) ay) (aa (aO aW (pv 2) ay) ah)))) (pF (pv 1) (gv d7 ay) jB))) (au (aT (dQ qF jV jW bS (pv 1) (aa (pv 2) ah))))))) (au (aJ (pv 1))))),?_⟩;refine⟨gQ,λq hq=>?_⟩;have s0:aI H (aN H q (.lst [])):=ak hq _;refine⟨Y,r,rfl,⟨_,bG.of (s0 _ _ hr1)⟩,dB (K:=K) (a:=r) (xs:=Rk) (λi σ H2=>∃ (vs:List V) (u:Option V),σ=[⇑↥r,⇑↥q,u]/\H2 q=⇑(.lst vs)/\cj (cS H2) vs ((aP.take i).foldl bT [])/\aI H H2) ⟨[],none,rfl,af,.nil,s0⟩ (by rintro i σ H2 _ ⟨_,_,_,_,_,s⟩;exact bG.of (s _ _ hr1)) ?_ ?_⟩
 ·rintro i x σ H2 hi ⟨vs,u,rfl,eN,hb,s⟩;let⟨it,ei,hiv⟩:=uU.get hi;have hx2:=hiv.same s;have step:(aP.take (i+1)).foldl bT []=bT ((aP.take i).foldl bT []) it:=by rw[take_snoc ei,List.foldl_append];rfl
  have bl:↑vs<sizeLine:=by
   have z:=hb.len;have z2:=JC (aP.take i) [];rw[gr,lM]at z2;exact aQ ∅
  have app:bT ((aP.take i).foldl bT []) it=(aP.take i).foldl bT []++[it]->∃ (DQ:List V) (u':Option V),[⇑(V.ref r),⇑↥q,⇑x]=[⇑↥r,⇑↥q,u']/\(aN H2 q (.lst (vs++[x]))) q=⇑(.lst DQ)/\cj (cS (aN H2 q (.lst (vs++[x])))) DQ ((aP.take (i+1)).foldl bT [])/\aI H (aN H2 q (.lst (vs++[x]))):=λe=>by
   refine⟨E,rfl,af,?_,bH hq s (aG q _ _)⟩;rw[step,e];exact cj.snoc (hb.mono λv i h=>h.keep eN (aG q _ _)) (hx2.keep eN (aG q _ _))
  rcases qG ((aP.take i).foldl bT []) with hn|⟨t0,l0,hn⟩
  ·have hvs:vs=[]:=by
    rw[hn]at hb;exact List.eq_nil_of_length_eq_zero hb.len
   subst hvs;refine⟨Y,false,.inl ⟨_,bG.of eN,rfl⟩,eL (eL ?_)⟩;refine⟨Y,.inl ⟨rfl,_,bG.of eN⟩,Y,q,Z,eN,bl,app ?_⟩;rw[hn];rfl
  ·rw[nK]at hn;have hb':=hb;rw[hn]at hb';let⟨us,v0,rfl,hb0,hv0⟩:=hb'.split;let⟨a0,rfl,Ll⟩:=id hv0;refine⟨Y,true,.inl ⟨_,bG.of eN,by simp⟩,iX ?_⟩;exists Y,Y,q,Q,K,bG.of eN,gx _ _,Y,E,l0,it,rfl,hv0,hx2,Y
   cases l0 with
   | win n =>
    refine eL ?_;refine⟨Y,.inl ⟨rfl,_,bG.of eN⟩,Y,q,Z,eN,bl,app ?_⟩;rw[hn];unfold bT;rw[tN]
   | aK p1 p2 =>
    cases it with
    | win n =>
     refine eL ?_;refine⟨Y,.inl ⟨rfl,_,bG.of eN⟩,Y,q,Z,eN,bl,app ?_⟩;rw[hn];unfold bT;rw[tN]
    | aK c d =>
     refine cR (λz=>?_) (λz=>?_)
     ·have e2:p2=c:=of_decide_eq_true z;let⟨ax,rfl,hax⟩:=id hx2;refine⟨Y,Y,q,Q,K,bG.of eN,gx _ _,a0,Q,K,cW.of Ll,rfl,Y,ax,Q,K,cW.of hax,rfl,F9,λt ht=>?_⟩;refine⟨Y,Y,q,E,↑us,K,ak ht _ _ _ eN,(by rw[cT];exact Ae _),?_⟩;rw[Af];refine⟨E,rfl,af,?_,bH hq (s.trans (ak ht _)) (aG q _ _)⟩
      have e3:(aP.take (i+1)).foldl bT []=t0++[.aK p1 d]:=by
       rw[step,hn];unfold bT;rw[tN,List.dropLast_concat];show (if p2=c then t0++[aS.aK p1 d] else _)=_;rw[if_pos e2]
      rw[e3];exact cj.new (it:=.aK p1 d) eN hb0 ht _
     ·have e2:¬ p2=c:=λw=>z (decide_eq_true w);refine⟨Y,.inl ⟨rfl,_,bG.of eN⟩,Y,q,Z,eN,bl,app ?_⟩;rw[hn];unfold bT;rw[tN];show (if p2=c then _ else t0++[aS.aK p1 p2]++[aS.aK c d])=_;rw[if_neg e2]
 ·rintro σ H2 ⟨vs,u,rfl,eN,hb,s⟩;rw[uU.len,gH]at hb;exact⟨Y,k q H2 ⟨q,vs,rfl,eN,hb⟩ s hq⟩
def cQ(r:Row):List aS:=r.map λp=>.aK p.1 p.2
class inductive Tu
 | mk (r:Addr) (row:Row) (_:vs=[↥r]) (_:bW H r row) (_:↑row<=100000) (_ :
 ∀ (o:Addr) (H':Hp),bw H' ↥o (cQ (cy row))->aI H H'->H o=none->Q ↥o H')
theorem Tv:aF ["row"] ["row"] (az DH):=eO
theorem mR:‹(2,22,["row"],Tu)›:=λD=>by
 specialize eS D.Gf.F Tv;let⟨r,row,rfl,R,dJ,k⟩:=h;refine⟨_,(au (aJ (gI (N:=["start","stop"]) (jI (sc:=az DH) (NX:=["row"]) (jx:=[none,none]) rfl rfl rfl nofun nofun rfl nofun rfl nofun) rfl (cu (aH D.Vc (mP D) hr (aa (pv 0) ah))) (λ_ _ _ _ _ _=>(sR (n:=2) rfl (bP (bQ (i:=0) (show List.Nodup (["start","stop"]:List Str) by decide +kernel)) (bP (bQ (i:=1) (show List.Nodup (["start","stop"]:List Str) by decide +kernel)) fX)))) (λ_ _ _ _ _ _=>fZ) (λ_ _ _ _ _ _=>(cH (aa bI (aa (pv 0) (aa (pv 1) ah)))))))),?_⟩;refine⟨Y,r,row,rfl,R,by lia,λq H1 R1 s1 hq=>?_⟩;let⟨as,h1,p1⟩:=id R1;have pl:=lY row;refine⟨q,rfl,⟨_,bG.of h1⟩,λacc cP=>fE (K:=K) (a:=q) (xs:=as.map V.ref) (λi σ H2=>∃ (u v:Option V) (vs:List V),σ=[u,v]/\H2 acc=⇑(.lst vs)/\cj (cS H2) vs (cQ ((cy row).take i))/\aI H1 H2) ⟨none,none,[],rfl,af,.nil,ak cP _⟩ (by rintro i σ H2 _ ⟨_,_,_,_,_,_,s⟩;exact bG.of (s _ _ h1)) ?_ ?_⟩
 ·rintro i x σ H2 hi ⟨u,v,vs,rfl,ha,t2,s⟩;rw[mY]at hi;let⟨a,ea,rfl⟩:=Option.map_eq_some_iff.mp hi;let⟨⟨st,en⟩,ep,hpa⟩:=p1.get ea;have bl:=t2.len;unfold cQ at bl;rw[cB,gr]at bl;refine⟨a,Y,cW.of (s _ _ hpa),rfl,E,rfl,Z,yes (iX ?_)⟩;refine⟨Y,Y,F9,λt ht=>?_⟩;refine⟨vs,ak ht _ _ _ ha,aQ ∅,Q,rfl,af,?_,bH cP (s.trans (ak ht _)) (aG acc _ _)⟩
  have e:cQ ((cy row).take (i+1))=cQ ((cy row).take i)++[.aK st en]:=by
   rw[take_snoc ep];unfold cQ;rw[gE];rfl
  rw[e];exact cj.new (it:=.aK st en) ha t2 ht _
 ·rintro σ H2 ⟨u,v,vs,rfl,ha,t2,s⟩;rw[cB,p1.len,gH]at t2;refine k acc H2 ⟨acc,vs,rfl,ha,t2⟩ (s1.trans s) ?_
  cases e:H acc with
  | none=>rfl
  | some o=>exact absurd ((s1 _ _ e).symm.trans cP) (by simp)
def fG:aS->List Int
 | .win n=>[-1-n]
 | .aK a b=>run a (b-a).toNat
def dF(aP:List aS):List Int:=aP.flatMap fG
def lJ:aS->Prop
 | .win n=>0<=n
 | .aK a b=>0<=a/\a<b
def fR(aP:List aS):Prop:=∀ it∈aP,lJ it
def ff(a b:List aS):dF (a++b)=dF a++dF b:=by unfold dF;rw[yQ]
def kG(a:aS):dF [a]=fG a:=by simp[dF]
theorem fR.append{a b:List aS}(h:fR a)(g:fR b):fR (a++b):=λit hm=>(List.mem_append.mp hm).elim (h it) (g it)
theorem fR.one{a:aS}(h:lJ a):fR [a]:=λit hm=>by rw[List.mem_singleton.mp hm];exact h
def Pz(t:List aS){n:Int}(h:0<=n):bg t (-1-n)=t++[.win n]:=by
 unfold bg;rw[if_pos ∅];congr 3;lia
def MY(t:List aS)(p s:Int)(h:0<=s):bg (t++[.aK p s]) s=t++[.aK p (s+1)]:=by
 unfold bg;rw[if_neg ∅,tN];show (if s=s then (t++[aS.aK p s]).dropLast++[.aK p (s+1)] else _)=_;rw[if_pos rfl,List.dropLast_concat]
theorem C7(t:List aS)(p:Int):∀ (n:Nat) (s:Int),0<=s->(run s n).foldl bg (t++[.aK p s])=t++[.aK p (s+n)]
 | 0,s,_=>by simp[run]
 | n+1,s,h=>by
  rw[run,mh,MY t p s h,C7 t p n (s+1) ∅];congr 3;lia
def JD(t:List aS)(it:aS)(h:lJ it):bT t it=(fG it).foldl bg t:=by
 cases it with
 | win n =>
  show bT t (.win n)=bg t (-1-n);rw[Pz t h];unfold bT
  cases t.getLast? with
  | none=>rfl
  | some l=>cases l <;> rfl
 | aK a b =>
  let⟨a0,ab⟩:=h;have e:(b-a).toNat=(b-(a+1)).toNat+1:=by lia
  show bT t (.aK a b)=(run a (b-a).toNat).foldl bg t;rw[e,run,mh]
  have iS:∀ (u:List aS) (p:Int),(run (a+1) (b-(a+1)).toNat).foldl bg (u++[.aK p (a+1)])=u++[.aK p b]:=λu p=>by
   rw[C7 u p _ _ ∅];congr 3;lia
  unfold bT bg;rw[if_neg ∅]
  cases t.getLast? with
  | none=>exact (iS t a).symm
  | some l =>
   cases l with
   | win n=>exact (iS t a).symm
   | aK p q =>
    show (if q=a then t.dropLast++[aS.aK p b] else t++[aS.aK a b])=List.foldl bg (if q=a then t.dropLast++[aS.aK p (a+1)] else t++[aS.aK a (a+1)]) _;by_cases c:q=a
    ·rw[if_pos c,if_pos c,iS]
    ·rw[if_neg c,if_neg c,iS]
def kH(aP:List aS)(h:fR aP):JB aP=aC (dF aP):=by
 unfold JB aC dF;rw[mK]
 have z:∀ (aP:List aS) (t:List aS),fR aP->aP.foldl bT t=aP.foldl (λc a=>(fG a).foldl bg c) t:=by
  intro aP
  induction aP with
  | nil=>intro t _;rfl
  | cons it aP ih =>
   intro t h;rw[mh,mh,JD t it (h it (by simp))];exact ih _ λi hi=>h i (nI _ hi)
 exact z aP [] h
def MZ(t:List aS)(e:Int)(h:fR t):dF (bg t e)=dF t++[e]/\fR (bg t e):=by
 unfold bg;by_cases c:e<0
 ·rw[if_pos c,ff,kG];refine⟨?_,h.append (fR.one (by show 0<=-1-e;lia))⟩;show dF t++[-1-(-1-e)]=_;rw[show -1-(-1-e)=e by lia]
 ·rw[if_neg c]
  have pl:dF (t++[.aK e (e+1)])=dF t++[e]/\fR (t++[.aK e (e+1)]):=by
   refine⟨?_,h.append (fR.one ⟨by lia,by lia⟩)⟩;rw[ff,kG];show _++run e (e+1-e).toNat=_;rw[show (e+1-e).toNat=1 by lia];rfl
  rcases qG t with rfl|⟨t',l,rfl⟩
  ·exact pl
  ·rw[nK]at h pl ⊢;rw[tN]
   cases l with
   | win n=>exact pl
   | aK a b =>
    show dF (if b=e then (t'++[aS.aK a b]).dropLast++[.aK a (e+1)] else (t'++[aS.aK a b])++[.aK e (e+1)])=_/\fR (if b=e then (t'++[aS.aK a b]).dropLast++[.aK a (e+1)] else (t'++[aS.aK a b])++[.aK e (e+1)]);by_cases hb:b=e
    ·subst hb;obtain⟨a0,ab⟩:0<=a/\a<b:=h (.aK a b) (by simp);rw[if_pos rfl,List.dropLast_concat];refine⟨?_,fR.append (λi hi=>h i (tM _ hi)) (fR.one ⟨a0,by lia⟩)⟩;rw[ff,ff,kG,kG,m8];congr 1;show run a (b+1-a).toNat=run a (b-a).toNat++[b];rw[show (b+1-a).toNat=(b-a).toNat+1 by lia,oU];congr 2;lia
    ·rw[if_neg hb];exact pl
def mS(es:List Int):dF (aC es)=es/\fR (aC es):=by
 have z:∀ (es:List Int) (t:List aS),fR t->dF (es.foldl bg t)=dF t++es/\fR (es.foldl bg t):=by
  intro es
  induction es with
  | nil=>intro t h;exact⟨by simp,h⟩
  | cons e es ih =>
   intro t h;let⟨h1,h2⟩:=MZ t e h;let⟨h3,h4⟩:=ih _ h2;exact⟨by rw[mh,h3,h1,m8];rfl,h4⟩
 let⟨h1,h2⟩:=z es [] (λi hi=>by cases hi);exact⟨by unfold aC;rw[h1];rfl,h2⟩
def oY(r:Row):dF (cQ r)=bK r:=by
 unfold dF cQ bK;rw[List.flatMap_map];rfl
def vZ{r:Row}(h:jJ r):fR (cQ r):=by
 intro it hm;unfold cQ at hm;let⟨p,hp,rfl⟩:=List.mem_map.mp hm;exact h p hp
def M0{ns:List Int}(h:∀ x∈ns,0<=x):cQ (cF ns)=aC ns:=by
 have z:∀ (ns:List Int) (t:Row),(∀ x∈ns,0<=x)->cQ (ns.foldl (λt n=>jw t n (n+1)) t)=ns.foldl bg (cQ t):=by
  intro ns
  induction ns with
  | nil=>intro t _;rfl
  | cons n ns ih =>
   intro t h;rw[mh,mh,ih _ λx hx=>h x (nI _ hx)];congr 1;have n0:=h n (by simp);unfold jw bg;rw[if_neg ∅];rcases qG t with rfl|⟨t',l,rfl⟩
   ·rfl
   ·rw[nK,tN];have e:(cQ (t'++[l])).getLast?=⇑(.aK l.1 l.2):=by unfold cQ;rw[gE];exact tN
    rw[e];show cQ (if l.2=n then (t'++[l]).dropLast++[(l.1,n+1)] else t'++[l]++[(n,n+1)])=if l.2=n then (cQ (t'++[l])).dropLast++[.aK l.1 (n+1)] else cQ (t'++[l])++[.aK n (n+1)];by_cases c:l.2=n
    ·rw[if_pos c,if_pos c,List.dropLast_concat];unfold cQ;rw[gE,gE];simp
    ·rw[if_neg c,if_neg c];unfold cQ;rw[gE];rfl
 exact z ns [] h
abbrev m9:=aS × Row × Int × Int
def cV(sh:Int->List Int)(it:aS):Row:=qx (λn=>cF (sh n)) it
def bU(sh:Int->List Int):Int->List aS->List m9
 | _,[]=>[]
 | f,it::r=>(it,cV sh it,f,f+i7 (cV sh it))::bU sh (f+i7 (cV sh it)) r
theorem v7(sh:Int->List Int)(b:List aS):∀ (a:List aS) (f:Int),bU sh f (a++b)=bU sh f a++bU sh (f+i7 (bx sh a)) b
 | [],f=>by simp[bU,bx,i7]
 | it::a,f=>by
  rw[List.cons_append,bU,bU,v7 sh b a,List.cons_append];have e:bx sh (it::a)=cV sh it++bx sh a:=by unfold bx;rw[iT];rfl
  rw[e,Ac,Int.add_assoc]
theorem C8(sh:Int->List Int):∀ (a:List aS) (f:Int),↑(bU sh f a)=↑a
 | [],_=>rfl
 | _::a,f=>by rw[bU,jS,jS,C8 sh a]
def mT(N:Addr->Prop)(H:Hp)(v:V)(d:m9):Prop:=∃ (a ra:Addr) (x:V),v=↥a/\H a=⇑(.tup [x,↥ra,.int d.2.2.1,.int d.2.2.2])/\cS H x d.1/\bW H ra d.2.1/\N ra
theorem mT.same{N:Addr->Prop}{H H':Hp}{v:V}{d:m9}(s:aI H H'):mT N H v d->mT N H' v d:=λ⟨a,ra,x,e,h,i,r,n⟩=>⟨a,ra,x,e,s _ _ h,i.same s,r.same s,n⟩
theorem mT.keep{N:Addr->Prop}{H H':Hp}{v:V}{d:m9}{q:Addr}{xs:List V}(hq:H q=⇑(.lst xs))(nq:∀ a,N a->a≠q)(k:cz q H H'):mT N H v d->mT N H' v d:=λ⟨a,ra,x,e,h,i,r,n⟩=>⟨a,ra,x,e,k a _ h (by
 intro z;rw[z,hq]at h
 cases h),i.keep hq k,r.keep hq (nq ra n) k,n⟩
def xQ(H:Hp)(kvs:List (dN × V))(sh:Int->List Int)(aP:List aS):Prop:=∀ n,aS.win n∈aP->∃ a,cL kvs (Sum.inl n)=⇑↥a/\bW H a (cF (sh n))
theorem xQ.same{H H':Hp}{kvs:List (dN × V)}{sh:Int->List Int}{aP:List aS}(s:aI H H')(h:xQ H kvs sh aP):xQ H' kvs sh aP:=λn hn=>by
 let⟨a,e,r⟩:=h n hn;exact⟨a,e,r.same s⟩
def aD(p:Int)(d:m9):List aS:=if d.2.2.2<=p then [d.1] else if p<=d.2.2.1 then [] else cQ (cy (kM 0 (p-d.2.2.1) 0 d.2.1))
def bD(p:Int)(d:m9):List aS:=if d.2.2.2<=p then [] else if p<=d.2.2.1 then [d.1] else cQ (cy (kM (p-d.2.2.1) (d.2.2.2-d.2.2.1) 0 d.2.1))
def aE(sh:Int->List Int)(p:Int):Int->List Int->List Int
 | _,[]=>[]
 | f,e::r=>(if f+↑(aX sh e)<=p then [e] else if p<=f then [] else (aX sh e).take (p-f).toNat)++aE sh p (f+↑(aX sh e)) r
def bE(sh:Int->List Int)(p:Int):Int->List Int->List Int
 | _,[]=>[]
 | f,e::r=>(if f+↑(aX sh e)<=p then [] else if p<=f then [e] else (aX sh e).drop (p-f).toNat)++bE sh p (f+↑(aX sh e)) r
def bX(sh:Int->List Int)(e:Int)(r:List Int):aU sh (e::r)=aX sh e++aU sh r:=by unfold aU;rw[iT]
def jL(sh:Int->List Int)(a b:List Int):aU sh (a++b)=aU sh a++aU sh b:=by unfold aU;rw[yQ]
theorem xR(sh:Int->List Int)(p:Int)(y:List Int):∀ (x:List Int) (f:Int),aE sh p f (x++y)=aE sh p f x++aE sh p (f+↑(aU sh x)) y
 | [],f=>by simp[aE,aU]
 | e::x,f=>by
  rw[List.cons_append,aE,aE,xR sh p y x,m8,bX,cT,Int.add_assoc]
  push_cast
  rfl
theorem xS(sh:Int->List Int)(p:Int)(y:List Int):∀ (x:List Int) (f:Int),bE sh p f (x++y)=bE sh p f x++bE sh p (f+↑(aU sh x)) y
 | [],f=>by simp[bE,aU]
 | e::x,f=>by
  rw[List.cons_append,bE,bE,xS sh p y x,m8,bX,cT,Int.add_assoc]
  push_cast
  rfl
def sW(sh:Int->List Int){e:Int}(h:0<=e):aX sh e=[e]:=by unfold aX;rw[if_neg ∅]
theorem lZ(sh:Int->List Int):∀ (n:Nat) (a:Int),0<=a->aU sh (run a n)=run a n
 | 0,_,_=>rfl
 | n+1,a,h=>by rw[run,bX,sW sh h,lZ sh n (a+1) ∅];rfl
theorem PB(sh:Int->List Int)(p:Int):∀ (n:Nat) (a f:Int),0<=a->aE sh p f (run a n)=(run a n).take (p-f).toNat
 | 0,_,_,_=>by simp[run,aE]
 | n+1,a,f,h=>by
  rw[run,aE,PB sh p n (a+1) _ ∅,sW sh h];show (if f+1<=p then [a] else if p<=f then [] else _)++(run (a+1) n).take (p-(f+1)).toNat=_;by_cases c:f+1<=p
  ·rw[if_pos c,show (p-f).toNat=(p-(f+1)).toNat+1 by lia];rfl
  ·rw[if_neg c,if_pos ∅,show (p-f).toNat=0 by lia,show (p-(f+1)).toNat=0 by lia];rfl
theorem PD(sh:Int->List Int)(p:Int):∀ (n:Nat) (a f:Int),0<=a->bE sh p f (run a n)=(run a n).drop (p-f).toNat
 | 0,_,_,_=>by simp[run,bE]
 | n+1,a,f,h=>by
  rw[run,bE,PD sh p n (a+1) _ ∅,sW sh h];show (if f+1<=p then [] else if p<=f then [a] else _)++(run (a+1) n).drop (p-(f+1)).toNat=_;by_cases c:f+1<=p
  ·rw[if_pos c,show (p-f).toNat=(p-(f+1)).toNat+1 by lia];rfl
  ·rw[if_neg c,if_pos ∅,show (p-f).toNat=0 by lia,show (p-(f+1)).toNat=0 by lia];rfl
def PF(sh:Int->List Int){n:Int}(h:0<=n):aX sh (-1-n)=sh n:=by
 unfold aX;rw[if_pos ∅,show -1-(-1-n)=n by lia]
def v8(sh:Int->List Int)(it:aS)(h:lJ it):∀ q∈cV sh it,q.1<=q.2:=by
 cases it with
 | win n=>exact jH _
 | aK a b =>
  intro q hq;have:q=(a,b):=by simpa [cV,qx] using hq
  subst this;have:=h.2;show a<=b;lia
def j3(sh:Int->List Int)(it:aS)(h:lJ it):bK (cV sh it)=aU sh (fG it):=by
 cases it with
 | win n =>
  show bK (cF (sh n))=aU sh [-1-n];rw[dz,bX,PF sh h];simp[aU]
 | aK a b =>
  show bK [(a,b)]=aU sh (run a (b-a).toNat);rw[gw,lZ sh _ _ h.1];rfl
def kJ(sh:Int->List Int)(it:aS)(h:lJ it):i7 (cV sh it)=↑(aU sh (fG it)):=by
 rw[← j3 sh it h,sH _ (v8 sh it h)]
def abG(sh:Int->List Int)(p f:Int)(it:aS)(h:lJ it):dF (aD p (it,cV sh it,f,f+i7 (cV sh it)))=aE sh p f (fG it):=by
 have tt:=kJ sh it h
 have sp:dF (cQ (cy (kM 0 (p-f) 0 (cV sh it))))=(aU sh (fG it)).take (p-f).toNat:=by
  rw[oY,pZ _ _ _ (v8 sh it h),j3 sh it h];rfl
 unfold aD;show dF (if f+i7 (cV sh it)<=p then [it] else if p<=f then [] else cQ (cy (kM 0 (p-f) 0 (cV sh it))))=_;rw[tt]
 cases it with
 | win n =>
  have e1:aU sh (fG (.win n))=aX sh (-1-n):=by show aU sh [-1-n]=_;rw[bX];simp[aU]
  rw[e1]at sp ⊢;show _=aE sh p f [-1-n];rw[aE,aE,fV];split
  ·rfl
  ·split
   ·rfl
   ·exact sp
 | aK a b =>
  have e1:aU sh (fG (.aK a b))=run a (b-a).toNat:=lZ sh _ _ h.1;rw[e1]at sp ⊢;show _=aE sh p f (run a (b-a).toNat);rw[PB sh p _ _ _ h.1];have rl:=fD a (b-a).toNat;split
  ·rename_i c;rw[kG,uv ∅];rfl
  ·split
   ·rename_i c;rw[show (p-f).toNat=0 by lia];rfl
   ·exact sp
def abH(sh:Int->List Int)(p f:Int)(it:aS)(h:lJ it):dF (bD p (it,cV sh it,f,f+i7 (cV sh it)))=bE sh p f (fG it):=by
 have tt:=kJ sh it h
 have sp:dF (cQ (cy (kM (p-f) (f+i7 (cV sh it)-f) 0 (cV sh it))))=(aU sh (fG it)).drop (p-f).toNat:=by
  rw[oY,pZ _ _ _ (v8 sh it h),j3 sh it h,uv (by rw[tt];lia)]
 unfold bD;show dF (if f+i7 (cV sh it)<=p then [] else if p<=f then [it] else cQ (cy (kM (p-f) (f+i7 (cV sh it)-f) 0 (cV sh it))))=_;have c1:(f+i7 (cV sh it)<=p)=(f+↑(aU sh (fG it))<=p):=by rw[tt]
 simp only[c1]
 cases it with
 | win n =>
  have e1:aU sh (fG (.win n))=aX sh (-1-n):=by show aU sh [-1-n]=_;rw[bX];simp[aU]
  rw[e1]at sp ⊢;show _=bE sh p f [-1-n];rw[bE,bE,fV];split
  ·rfl
  ·split
   ·rfl
   ·exact sp
 | aK a b =>
  have e1:aU sh (fG (.aK a b))=run a (b-a).toNat:=lZ sh _ _ h.1;rw[e1]at sp ⊢;show _=bE sh p f (run a (b-a).toNat);rw[PD sh p _ _ _ h.1];have rl:=fD a (b-a).toNat;split
  ·rename_i c;rw[zF ∅];rfl
  ·split
   ·rename_i c;rw[kG,show (p-f).toNat=0 by lia];rfl
   ·exact sp
theorem Gq(sh:Int->List Int)(p:Int):∀ (aP:List aS) (f:Int),fR aP->dF ((bU sh f aP).flatMap (aD p))=aE sh p f (dF aP)
 | [],f,_=>rfl
 | it::r,f,h=>by
  have h1:=h it (by simp);rw[bU,iT,ff,abG sh p f it h1,Gq sh p r _ λi hi=>h i (nI _ hi)];have e:dF (it::r)=fG it++dF r:=by unfold dF;rw[iT]
  rw[e,xR,kJ sh it h1]
theorem C9(sh:Int->List Int)(p:Int):∀ (aP:List aS) (f:Int),fR aP->dF ((bU sh f aP).flatMap (bD p))=bE sh p f (dF aP)
 | [],f,_=>rfl
 | it::r,f,h=>by
  have h1:=h it (by simp);rw[bU,iT,ff,abH sh p f it h1,C9 sh p r _ λi hi=>h i (nI _ hi)];have e:dF (it::r)=fG it++dF r:=by unfold dF;rw[iT]
  rw[e,xS,kJ sh it h1]
def Tw(sh:Int->List Int)(aP:List aS):Prop:=∀ n,aS.win n∈aP->∀ x∈sh n,0<=x
def Tz(sh:Int->List Int)(it:aS)(h:lJ it)(g:∀ n,it=.win n->∀ x∈sh n,0<=x):lI (cV sh it):=by
 cases it with
 | win n=>exact (CZ (g n rfl)).nn
 | aK a b =>
  intro q hq;have:q=(a,b):=by simpa [cV,qx] using hq
  subst this;exact⟨h.1,by have:=h.2;show a<=b;lia⟩
theorem zD(sh:Int->List Int):∀ (aP:List aS) (f:Int),fR aP->Tw sh aP->∀ d∈bU sh f aP,lJ d.1/\lI d.2.1
 | [],_,_,_=>λd hd=>by cases hd
 | it::r,f,h,g=>by
  intro d hd;rw[bU]at hd;rcases List.mem_cons.mp hd with rfl|z
  ·exact⟨h it (by simp),Tz sh it (h it (by simp)) λn e=>g n (by rw[e];simp)⟩
  ·exact zD sh r _ (λi hi=>h i (nI _ hi)) (λn hn=>g n (nI _ hn)) d z
theorem AD{a b:Int}{r:Row}(h:lI r):fR (cQ (cy (kM a b 0 r))):=vZ (oW (Au a b r 0 h))
def abI{p:Int}{d:m9}(h:lJ d.1)(g:lI d.2.1):fR (aD p d):=by
 unfold aD;split
 ·exact fR.one h
 ·split
  ·exact λi hi=>by cases hi
  ·exact AD g
def abJ{p:Int}{d:m9}(h:lJ d.1)(g:lI d.2.1):fR (bD p d):=by
 unfold bD;split
 ·exact λi hi=>by cases hi
 ·split
  ·exact fR.one h
  ·exact AD g
theorem v9{g:m9->List aS}{l:List m9}(h:∀ d∈l,fR (g d)):fR (l.flatMap g):=λit hm=>by
 let⟨d,hd,hm⟩:=List.mem_flatMap.mp hm;exact h d hd it hm
def zE(r:Row):↑(cQ r)=↑r:=by unfold cQ;rw[cB]
def sX(a b:Int)(r:Row):↑(cQ (cy (kM a b 0 r)))<=↑r:=by
 rw[zE];exact gX (lY _) (jZ a b r 0)
theorem AE(sh:Int->List Int){g:m9->List aS}(hg:∀ d,↑(g d)<=↑d.2.1+1):∀ (aP:List aS) (f:Int),↑((bU sh f aP).flatMap g)<=↑(bx sh aP)+↑aP
 | [],_=>by simp[bU]
 | it::r,f=>by
  rw[bU,iT,cT];have a:=hg (it,cV sh it,f,f+i7 (cV sh it));have b:=AE sh hg r (f+i7 (cV sh it));have e:bx sh (it::r)=cV sh it++bx sh r:=by unfold bx;rw[iT];rfl
  rw[e,cT,jS];simp only at a;lia
def XU(p:Int)(d:m9):↑(aD p d)<=↑d.2.1+1:=by
 unfold aD;split
 ·simp
 ·split
  ·simp
  ·exact gX (sX _ _ _) ∅
def XW(p:Int)(d:m9):↑(bD p d)<=↑d.2.1+1:=by
 unfold bD;split
 ·simp
 ·split
  ·simp
  ·exact gX (sX _ _ _) ∅
def iJ{α β:Type}(g:α->List β)(l:List α)(i:Nat):↑((l.take i).flatMap g)<=↑(l.flatMap g):=by
 have e:l.flatMap g=(l.take i).flatMap g++(l.drop i).flatMap g:=by rw[← yQ,List.take_append_drop]
 rw[e,cT];lia
def sY{α β:Type}(g:α->List β){l:List α}{i:Nat}{a:α}(h:l[i]?=⇑a):(l.take (i+1)).flatMap g=(l.take i).flatMap g++g a:=by
 rw[take_snoc h,yQ];simp
def wc(sh:Int->List Int){aP:List aS}{it:aS}(h:it∈aP):↑(cV sh it)<=↑(bx sh aP):=by
 let⟨a,b,rfl⟩:=List.append_of_mem h;rw[eG];have e:bx sh (it::b)=cV sh it++bx sh b:=by unfold bx;rw[iT];rfl
 rw[e,cT,cT];lia
def Ln(A B:Addr)(H H':Hp):Prop:=∀ a o,H a=⇑o->a≠A->a≠B->H' a=⇑o
theorem Ln.tup{A B:Addr}{H H':Hp}{xs ys:List V}(k:Ln A B H H')(hA:H A=⇑(.lst xs))(hB:H B=⇑(.lst ys)):∀ a zs,H a=⇑(.tup zs)->H' a=⇑(.tup zs):=λa zs h=>k a _ h (λz=>by
 rw[z,hA]at h;cases h) (λz=>by
 rw[z,hB]at h
 cases h)
theorem cS.tups{H H':Hp}{v:V}{it:aS}(t:∀ a xs,H a=⇑(.tup xs)->H' a=⇑(.tup xs)):cS H v it->cS H' v it:=λ⟨a,e,h⟩=>⟨a,e,t a _ h⟩
theorem mT.Vr{N:Addr->Prop}{A B:Addr}{H H':Hp}{v:V}{d:m9}{xs ys:List V}(hA:H A=⇑(.lst xs))(hB:H B=⇑(.lst ys))(n:∀ a,N a->a≠A/\a≠B)(k:Ln A B H H'):mT N H v d->mT N H' v d:=λ⟨a,ra,x,e,h,i,⟨as,hr,hp⟩,hn⟩ =>
 ⟨a,ra,x,e,k.tup hA hB _ _ h,i.tups (k.tup hA hB),⟨as,k _ _ hr (n ra hn).1 (n ra hn).2,hp.tups (k.tup hA hB)⟩,hn⟩
def cj.app{α β:Type}{R:α->β->Prop}{as cs:List α}{bs ds:List β}(h:cj R as bs)(t:cj R cs ds):cj R (as++cs) (bs++ds):=by
 induction h with
 | nil=>exact t
 | cons e _ ih=>exact .cons e ih
structure lK(H1:Hp)(A B:Addr)(l1 l2:List aS)(H2:Hp):Prop where
 a:∃ vs,H2 A=⇑(.lst vs)/\cj (cS H2) vs l1
 b:∃ vs,H2 B=⇑(.lst vs)/\cj (cS H2) vs l2
 k:Ln A B H1 H2
def lK.same{H1 H2 H3:Hp}{A B:Addr}{l1 l2:List aS}(p:lK H1 A B l1 l2 H2)(s:aI H2 H3):lK H1 A B l1 l2 H3:=by
 let⟨⟨v1,h1,t1⟩,⟨v2,h2,t2⟩,k⟩:=p;exact⟨⟨v1,s _ _ h1,t1.mono λ_ _ h=>h.same s⟩,⟨v2,s _ _ h2,t2.mono λ_ _ h=>h.same s⟩,λa o e n m=>s _ _ (k a o e n m)⟩
def lK.Lo{H1 H2:Hp}{A B:Addr}{l1 l2 l3:List aS}{v1 v3:List V}(p:lK H1 A B l1 l2 H2)(n:A≠B)(h1:H2 A=⇑(.lst v1))(t3:cj (cS H2) v3 l3):lK H1 A B (l1++l3) l2 (aN H2 A (.lst (v1++v3))):=by
 let⟨⟨v1',h1',t1⟩,⟨v2,h2,t2⟩,k⟩:=p;rw[h1]at h1';cases h1';have kp:∀ v i,cS H2 v i->cS (aN H2 A (.lst (v1++v3))) v i:=λv i h=>h.keep h1 (aG A _ _);refine⟨⟨_,af,(t1.mono kp).app (t3.mono kp)⟩,⟨v2,by rw[aL n.symm];exact h2,t2.mono kp⟩,λa o e m1 m2=>?_⟩;rw[aL m1];exact k a o e m1 m2
def lK.Lp{H1 H2:Hp}{A B:Addr}{l1 l2 l3:List aS}{v2 v3:List V}(p:lK H1 A B l1 l2 H2)(n:A≠B)(h2:H2 B=⇑(.lst v2))(t3:cj (cS H2) v3 l3):lK H1 A B l1 (l2++l3) (aN H2 B (.lst (v2++v3))):=by
 let⟨⟨v1,h1,t1⟩,⟨v2',h2',t2⟩,k⟩:=p;rw[h2]at h2';cases h2';have kp:∀ v i,cS H2 v i->cS (aN H2 B (.lst (v2++v3))) v i:=λv i h=>h.keep h2 (aG B _ _);refine⟨⟨v1,by rw[aL n];exact h1,t1.mono kp⟩,⟨_,af,(t2.mono kp).app (t3.mono kp)⟩,λa o e m1 m2=>?_⟩;rw[aL m2];exact k a o e m1 m2
def oZ{rows:cJ}{sh:Int->List Int}(pC:gf rows)(yV:Bq rows)(yz:kF rows sh):∀ x:Int,0<=x->x<↑rows->∀ y∈sh x,0<=y:=by
 let⟨rk,hb,hd⟩:=yV
 have key:∀ (k:Nat) (x:Int),rk x<k->0<=x->x<↑rows->∀ y∈sh x,0<=y:=by
  intro k
  induction k with
  | zero=>intro x h;lia
  | succ k ih =>
   intro x hx x0 x1 y hy;have he:rows[x.toNat]?=⇑rows[x.toNat]:=tK ∅;rw[yz x _ x0 he]at hy;unfold aU at hy;let⟨e,hm,hy⟩:=List.mem_flatMap.mp hy;unfold aX at hy;by_cases c:e<0
   ·rw[if_pos c]at hy;have nx:gO rows x (-1-e):=⟨x0,_,he,cD.mpr ⟨by lia,by rw[show -1-(-1-e)=e by lia];exact hm⟩⟩;let⟨a,b⟩:=pC.Bp nx;have:=hd _ _ nx;exact ih _ ∅ a b y hy
   ·rw[if_neg c]at hy;rw[List.mem_singleton.mp hy];lia
 exact λx=>key (rk x+1) x (Nat.lt_succ_self _)
def sZ{rows:cJ}{s n:Int}{es:List Int}(h0:0<=s)(he:rows[s.toNat]?=⇑es)(h:aS.win n∈aC es):gO rows s n:=by
 exists h0,es,he;rw[← iI];unfold eZ;rw[List.mem_filterMap];exact⟨.win n,h,rfl⟩
structure qg(H:Hp)(r:Addr)(rows:cJ)(sh:Int->List Int):Prop where
 at_:gc H r (rows.map aC)
 len:↑rows<=1000
 ents:∀ es∈rows,↑es<=1000
 snd:gf rows
 rk:Bq rows
 PJ:kF rows sh
 bd:∀ x:Int,0<=x->x<↑rows->↑(sh x)<=10000
theorem qg.same{H H':Hp}{r:Addr}{rows:cJ}{sh:Int->List Int}(s:aI H H')(h:qg H r rows sh):qg H' r rows sh:={ h with at_:=h.at_.same s }
structure abK(H:Hp)(r:Addr)(rows:cJ)(sh:Int->List Int)(s:Int)(es:List Int)(qL:List V)(b:Addr):Prop where
 he:rows[s.toNat]?=⇑es
 hr:H r=⇑(.lst qL)
 ix:qJ qL s=⇑↥b
 it:bw H ↥b (aC es)
 il:↑(aC es)<=1000
 rl:↑(bx sh (aC es))<=10000
 tt:i7 (cF (sh s))=↑(sh s)
 se:sh s=aU sh es
def qg.one{H:Hp}{r:Addr}{rows:cJ}{sh:Int->List Int}{s:Int}(h:qg H r rows sh)(h0:0<=s)(h1:s<↑rows):∃ es qL b,abK H r rows sh s es qL b:=by
 have eV:rows[s.toNat]?=⇑rows[s.toNat]:=tK ∅;let⟨qL,Ju,rL⟩:=h.at_;let⟨vi,D6,hI⟩:=rL.get' (i:=s.toNat) (b:=aC rows[s.toNat]) (by rw[mY,eV];rfl);let⟨b,Rk,rfl,hb,uU⟩:=id hI;have z:=dm D6;rw[show ((s.toNat:Nat):Int)=s by lia]at z;have hil:=oV rows[s.toNat] [];have hel:=h.ents _ (nJ eV);let⟨Ma,hok⟩:=AB sh rows[s.toNat];have se:=h.PJ s _ h0 eV;refine⟨_,qL,b,eV,Ju,z,hI,?_,?_,?_,se⟩
 ·show ↑(rows[s.toNat].foldl bg [])<=_;simp only[lM]at hil;lia
 ·have q:=uZ sh (aC rows[s.toNat]) hok;rw[Ma,← se]at q;have:=h.bd s h0 h1;lia
 ·rw[← sH _ (jH _),dz]
def j5(ns:List Int):↑(cF ns)<=↑ns:=by
 have z:=FJ ns [];simpa [cF] using z
def fH(sh:Int->List Int)(p:Int)(es new:List Int):List Int:=if new=[] then es else aE sh p 0 es++new++bE sh p 0 es
class inductive TF
 | mk (r S:Addr) (aP:List aS) (kvs:List (dN × V)) (sh:Int->List Int) (N:Addr->Prop) (_:vs=[↥r,↥S]) (_:bw H ↥r aP) (_:H S=⇑(.dK kvs)) (_:xQ H kvs sh aP) (_:↑aP<=100000) (_:(∀ it∈aP,↑(cV sh it)<=100000)) (_:(∀ n a,aS.win n∈aP->cL kvs (Sum.inl n)=⇑↥a->N a)) (_:(∀ a,H a=none->N a)) (_ :
 ∀ (o:Addr) (DQ:List V) (H':Hp),H' o=⇑(.lst DQ)->cj (mT N H') DQ (bU sh 0 aP)->aI H H'->H o=none->Q ↥o H')
theorem qh:aF ["items","views","told","first","item","row","last"] ["items","views"] (az IU):=eO
theorem Gr:‹(2,23,["items","views"],TF)›:=λD=>by
 specialize eS D.Xo.F qh;let⟨r,S,aP,kvs,sh,N,rfl,⟨r',Rk,e,hr1,uU⟩,hS,hW,dJ,hrl,nW,nN,k⟩:=h;cases e;exists _,(aj (aZ (i:=2) qh.nd (bL ah)) (aj (aZ (i:=3) qh.nd ay) (aj (dX PassesOwn.never rfl (cu (pv 0)) (bQ (i:=4) qh.nd) (aj (aZ (i:=5) qh.nd (aH D.Xn (yG D) hr (aa (pv 4) (aa (pv 1) ah)))) (aj (aZ (i:=6) qh.nd (bz dH (pv 3) (fO.vR D.Xh (D.T.oq _ D.Xh.m) (D4 D) hr (aa (pv 5) ah)))) (aj (aT (dQ qF jV jW bS (pv 2) (aa (cH (aa (pv 4) (aa (pv 5) (aa (pv 3) (aa (pv 6) ah))))) ah))) (au (aZ (i:=3) qh.nd (pv 6))))))) (au (aJ (pv 2))))));refine⟨gQ,λq hq=>?_⟩;have s0:aI H (aN H q (.lst [])):=ak hq _;refine⟨Y,r,rfl,⟨_,bG.of (s0 _ _ hr1)⟩,dB (K:=K) (a:=r) (xs:=Rk) (λi σ H2=>∃ (vs:List V) (u1 u2 u3:Option V),σ=[⇑↥r,⇑↥S,⇑↥q,⇑(.int (0+i7 (bx sh (aP.take i)))),u1,u2,u3]/\H2 q=⇑(.lst vs)/\cj (mT (λa=>N a/\a≠q) H2) vs (bU sh 0 (aP.take i))/\aI H H2) ⟨[],none,none,none,rfl,af,.nil,s0⟩ (by rintro i σ H2 _ ⟨_,_,_,_,_,_,_,s⟩;exact bG.of (s _ _ hr1)) ?_ ?_⟩
 ·rintro i x σ H2 hi ⟨vs,u1,u2,u3,rfl,eN,hb,s⟩;let⟨it,ei,hiv⟩:=uU.get hi;have im:=nJ ei;have bl:=hb.len;rw[C8,gr]at bl;refine⟨Y,Y,x,it,S,kvs,λn=>cF (sh n),rfl,hiv.same s,s _ _ hS,λn hn=>(hW.same s) n (by rw[← hn];exact im),λa H3 R3 s3 w3=>?_⟩
  have na:N a/\a≠q:=by
   rcases w3 with ⟨n,rfl,hv⟩|h0
   ·exists nW n a im hv;let⟨b,DV,⟨as,U8,_⟩⟩:=hW n im;rw[hv]at DV;cases DV;exact aA U8 hq
   ·exact⟨nN a (aR s h0),(aA eN h0).symm⟩
  refine⟨Y,Y,a,cV sh it,rfl,R3,gX (hrl it im) (by decide),λH4 s4=>⟨Z,?_⟩⟩;have TH:=s4 _ _ (s3 _ _ eN);refine⟨Y,.inl ⟨rfl,_,bG.of TH⟩,Y,Y,Y,Y,DU,λt ht=>?_⟩;have hq5:=ak ht (.tup [x,↥a,.int (0+i7 (bx sh (aP.take i))),.int (0+i7 (bx sh (aP.take i))+i7 (cV sh it))]) _ _ TH;refine⟨q,Z,hq5,aQ ∅,?_⟩;refine⟨Y,_,⇑x,⇑↥a,⇑(.int (0+i7 (bx sh (aP.take i))+i7 (cV sh it))),?_,af,?_,bH hq (s.trans (s3.trans (s4.trans (ak ht _)))) (aG q _ _)⟩
  ·have e:bx sh (aP.take (i+1))=bx sh (aP.take i)++cV sh it:=by rw[take_snoc ei,eG,jm];rfl
   rw[e,Ac,← Int.add_assoc];rfl
  ·have e:bU sh 0 (aP.take (i+1))=bU sh 0 (aP.take i)++[(it,cV sh it,0+i7 (bx sh (aP.take i)),0+i7 (bx sh (aP.take i))+i7 (cV sh it))]:=by rw[take_snoc ei,v7];rfl
   rw[e];have WR:t≠q:=(aA TH ht).symm;refine cj.snoc (hb.mono λv d h=>(((h.same s3).same s4).same (ak ht _)).keep hq5 (λa h=>h.2) (aG q _ _)) ⟨t,a,x,rfl,?_,?_,?_,na⟩
   ·rw[aL WR,af]
   ·exact ((((hiv.same s).same s3).same s4).same (ak ht _)).keep hq5 (aG q _ _)
   ·exact (((R3.same s4).same (ak ht _))).keep hq5 na.2 (aG q _ _)
 ·rintro σ H2 ⟨vs,u1,u2,u3,rfl,eN,hb,s⟩;rw[uU.len,gH]at hb;exact⟨Y,k q vs H2 eN (hb.mono λv d ⟨a,ra,x,e,h,i,r,n⟩=>⟨a,ra,x,e,h,i,r,n.1⟩) s hq⟩
class inductive JE
 | mk (r S o:Addr) (p:Int) (aP NO:List aS) (kvs:List (dN × V)) (sh:Int->List Int) (_:vs=[↥r,↥S,.int p,↥o]) (_:bw H ↥r aP) (_:H S=⇑(.dK kvs)) (_:xQ H kvs sh aP) (_:bw H ↥o NO) (_:fR aP) (_:fR NO) (_:Tw sh aP) (_:↑aP<=50000) (_:↑(bx sh aP)<=50000) (_:NO.length<=50000) (_ :
 ∀ (q:Addr) (H':Hp),bw H' ↥q (aC (aE sh p 0 (dF aP)++dF NO++bE sh p 0 (dF aP)))->aI H H'->H q=none->Q ↥q H')
theorem gh:aF ["items","views","place","others","ahead","behind","item","row","first","last"] ["items","views","place","others"] (az uE):=eO
theorem we:‹(3,24,["items","views","place","others"],JE)›:=λD=>by
 specialize eS D.Xp.F gh;let⟨r,S,o,p,aP,NO,kvs,sh,rfl,hI,hS,hW,hO,ok1,ok2,nn,l1,l2,l3,k⟩:=h;exists _,(aj (aZ (i:=4) gh.nd (bL ah)) (aj (aZ (i:=5) gh.nd (bL ah)) (aj (dX PassesOwn.never rfl (cu (aH D.Xo (Gr D) hr (aa (pv 0) (aa (pv 1) ah)))) (kQ (n:=4) rfl (bP (bQ (i:=6) gh.nd) (bP (bQ (i:=7) gh.nd) (bP (bQ (i:=8) gh.nd) (bP (bQ (i:=9) gh.nd) fX))))) (au (bO (aV fY (pv 9) (pv 2) (bh _)) (au (aT (dQ qF jV jW bS (pv 4) (aa (pv 6) ah)))) (au (bO (aV fY (pv 2) (pv 8) (bh _)) (au (aT (dQ qF jV jW bS (pv 5) (aa (pv 6) ah)))) (aj (ux (i:=4) gh.nd rfl (Or.inl rfl) (aH D.Gf (mR D) hr (aa (aH D.Xi (sV D) hr (aa (pv 7) (aa ay (aa (bz cY (pv 2) (pv 8)) ah)))) ah)) xM) (au (ux (i:=5) gh.nd rfl (Or.inl rfl) (aH D.Gf (mR D) hr (aa (aH D.Xi (sV D) hr (aa (pv 7) (aa (bz cY (pv 2) (pv 8)) (aa (bz cY (pv 9) (pv 8)) ah)))) ah)) xM)))))))) (au (aJ (aH D.MK (iz D) hr (aa (bz jC (bz jC (pv 4) (pv 3)) (pv 5)) ah)))))));refine⟨gQ,λA hA=>⟨gQ,λB hB=>?_⟩⟩;have sA:aI H (aN H A (.lst [])):=ak hA _;have sB:aI _ (aN (aN H A (.lst [])) B (.lst [])):=ak hB _;have s0:=sA.trans sB;have Br:A≠B:=aA af hB;have NQ:=aR sA hB;refine⟨Y,Y,r,S,aP,kvs,sh,λa=>a≠A/\a≠B,rfl,hI.same s0,s0 _ _ hS,hW.same s0,by lia,(λit hi=>by have:=wc sh hi;lia),?_,?_,λD dv H1 hD Sd s1 _=>?_⟩
 ·intro n a hn hv;let⟨b,e,as,hb,_⟩:=hW n hn;rw[hv]at e;cases e;exact⟨aA hb hA,aA hb NQ⟩
 ·intro a ha;exact⟨(aA (sB _ _ af) ha).symm,(aA af ha).symm⟩
 have hA1:=s1 _ _ (sB _ _ (af (H:=H) (a:=A) (o:=.lst [])));have hB1:=s1 _ _ (af (H:=aN H A (.lst [])) (a:=B) (o:=.lst []))
 have nD:D≠A/\D≠B:=by
  rename_i hD0;exact⟨(aA (sB _ _ af) hD0).symm,(aA af hD0).symm⟩
 have afB:=AE sh (XU p) aP 0;have afC:=AE sh (XW p) aP 0;have NR:=zD sh aP 0 ok1 nn;refine⟨D,rfl,⟨_,bG.of hD⟩,dB (K:=K) (a:=D) (xs:=dv) (λi σ H2=>∃ u1 u2 u3 u4:Option V,σ=[⇑↥r,⇑↥S,⇑(.int p),⇑↥o,⇑↥A,⇑↥B,u1,u2,u3,u4]/\lK H1 A B (((bU sh 0 aP).take i).flatMap (aD p)) (((bU sh 0 aP).take i).flatMap (bD p)) H2) ⟨none,none,none,none,rfl,⟨_,hA1,.nil⟩,⟨_,hB1,.nil⟩,λ_ _ e _ _=>e⟩ (by rintro i σ H2 _ ⟨_,_,_,_,_,pv⟩;exact bG.of (pv.k _ _ hD nD.1 nD.2)) ?_ ?_⟩
 ·rintro i x σ H2 hi ⟨u1,u2,u3,u4,rfl,pv⟩;let⟨d,ed,F3⟩:=Sd.get hi;have hd2:=F3.Vr hA1 hB1 (λa h=>h) pv.k;let⟨a,ra,xi,rfl,YU,hxi,XX,YV⟩:=hd2;have eA:=sY (aD p) ed;have eB:=sY (bD p) ed;have bA:=iJ (aD p) (bU sh 0 aP) i;have bB:=iJ (bD p) (bU sh 0 aP) i;have bA1:=iJ (aD p) (bU sh 0 aP) (i+1);have bB1:=iJ (bD p) (bU sh 0 aP) (i+1);let⟨v1,hv1,t1⟩:=pv.a;let⟨v2,hv2,t2⟩:=pv.b;have z1:=t1.len;have z2:=t2.len;let⟨it,row,fi,la⟩:=d
  have rl:↑row<=50000:=by
   have z:=nJ ed
   have:∃ So∈aP,row=cV sh So:=by
    have q:∀ (aP:List aS) (f:Int),(it,row,fi,la)∈bU sh f aP->∃ So∈aP,row=cV sh So:=by
     intro aP
     induction aP with
     | nil=>intro f h;cases h
     | cons i0 r0 ih =>
      intro f h;rw[bU]at h;rcases List.mem_cons.mp h with e|e
      ·cases e;exact⟨it,by simp,rfl⟩
      ·let⟨i1,m1,e1⟩:=ih _ e;exact⟨i1,nI _ m1,e1⟩
    exact q aP 0 z
   let⟨i1,m1,rfl⟩:=this;have:=wc sh m1;lia
  exists a,Y,cW.of YU,rfl,E,rfl,E,rfl,E,rfl,Z;refine⟨Y,Y,Z,Y,cR (λc=>?_) (λc=>?_)⟩
  ·have c':la<=p:=of_decide_eq_true c;refine⟨Y,.inl ⟨rfl,_,bG.of hv1⟩,Y,A,Z,hv1,aQ ∅,?_⟩;exists Q,Y;rw[eA,eB];have e1:aD p (it,row,fi,la)=[it]:=by unfold aD;rw[if_pos c']
   have e2:bD p (it,row,fi,la)=[]:=by unfold bD;rw[if_pos c']
   rw[e1,e2,fV];exact pv.Lo Br hv1 (.cons hxi .nil)
  ·have c':¬ la<=p:=λz=>c (decide_eq_true z);refine⟨Y,Y,Z,Y,cR (λc2=>?_) (λc2=>?_)⟩
   ·have M4:p<=fi:=of_decide_eq_true c2;refine⟨Y,.inl ⟨rfl,_,bG.of hv2⟩,Y,B,Z,hv2,aQ ∅,?_⟩;exists Q,Y;rw[eA,eB];have e1:aD p (it,row,fi,la)=[]:=by unfold aD;rw[if_neg c',if_pos M4]
    have e2:bD p (it,row,fi,la)=[it]:=by unfold bD;rw[if_neg c',if_pos M4]
    rw[e1,e2,fV];exact pv.Lp Br hv2 (.cons hxi .nil)
   ·have M4:¬ p<=fi:=λz=>c2 (decide_eq_true z);have e1:aD p (it,row,fi,la)=cQ (cy (kM 0 (p-fi) 0 row)):=by unfold aD;rw[if_neg c',if_neg M4]
    have e2:bD p (it,row,fi,la)=cQ (cy (kM (p-fi) (la-fi) 0 row)):=by unfold bD;rw[if_neg c',if_neg M4]
    rw[eA,e1,cT]at bA1;rw[eB,e2,cT]at bB1;refine⟨Y,Y,Y,Y,Z,ra,row,0,p-fi,rfl,XX,by lia,λq1 H3 R3 s3 Rm=>⟨q1,Y,R3,gX (jZ _ _ _ _) ∅,λq2 H4 I4 s4 eN=>?_⟩⟩;let⟨q2',v3,e3,h3,t3⟩:=I4;cases e3;have z3:=t3.len;have M5:=s4 _ _ (s3 _ _ hv1);refine⟨A,q2,Z,M5,h3,gG (aQ ∅),?_⟩;have pv5:=((pv.same s3).same s4).Lo Br M5 t3;have afG:bW (aN H4 A (.lst (v1++v3))) ra row:=((XX.same s3).same s4).keep M5 YV.1 (aG A _ _);have afH:(aN H4 A (.lst (v1++v3))) B=⇑(.lst v2):=by rw[aL Br.symm];exact s4 _ _ (s3 _ _ hv2)
    refine⟨Y,Y,Y,Y,Z,Y,Y,Z,ra,row,p-fi,la-fi,rfl,afG,by lia,λq3 H6 R6 s6 Pk=>⟨q3,Y,R6,gX (jZ _ _ _ _) ∅,λq4 H7 I7 s7 TH=>?_⟩⟩;let⟨q4',v4,e4,h4,t4⟩:=I7;cases e4;have z4:=t4.len;have Vs:=s7 _ _ (s6 _ _ afH);refine⟨B,q4,Z,Vs,h4,gG (aQ ∅),?_⟩;exists Q,Y;rw[eA,eB,e1,e2];exact ((pv5.same s6).same s7).Lp Br Vs t4
 ·rintro σ H2 ⟨u1,u2,u3,u4,rfl,pv⟩;have dl:=Sd.len;rw[dl,gH]at pv;let⟨v1,hv1,t1⟩:=pv.a;let⟨v2,hv2,t2⟩:=pv.b;have z1:=t1.len;have z2:=t2.len;have sm:aI H H2:=λa ob e=>pv.k a ob (s1 _ _ (s0 _ _ e)) (aA e hA) (aA e NQ);let⟨o',v3,e3,h3,t3⟩:=hO.same sm;cases e3;have z3:=t3.len;refine⟨Y,Y,A,o,Z,hv1,h3,gG (aQ ∅),λc1 SV=>?_⟩;have n1:aI H2 (aN H2 c1 (.lst (v1++v3))):=ak SV _;refine⟨Y,c1,B,Z,af,n1 _ _ hv2,gG (aQ (by rw[cT];lia)),λc2 HZ=>?_⟩;have n2:aI _ (aN (aN H2 c1 (.lst (v1++v3))) c2 (.lst (v1++v3++v2))):=ak HZ _;have WQ:=n1.trans n2;refine⟨c2,Y,⟨c2,Y,af,((t1.app t3).app t2).mono λv i h=>h.same WQ⟩,by rw[cT,cT];lia,λq H9 I9 s9 hq9=>?_⟩;have okA:fR ((bU sh 0 aP).flatMap (aD p)):=v9 λd hd=>abI (NR d hd).1 (NR d hd).2;have okB:fR ((bU sh 0 aP).flatMap (bD p)):=v9 λd hd=>abJ (NR d hd).1 (NR d hd).2;rw[kH _ ((okA.append ok2).append okB),ff,ff,Gq sh p aP 0 ok1,C9 sh p aP 0 ok1]at I9;exact k q H9 I9 (sm.trans (WQ.trans s9)) (aR (sm.trans WQ) hq9)
class inductive yH
 | mk (r o:Addr) (rows:cJ) (s p:Int) (aP:List aS) (sh:Int->List Int) (_:vs=[↥r,.int s,.int p,↥o]) (_:qg H r rows sh) (_:0<=s) (_:s<↑rows) (_:bw H ↥o aP) (_:fR aP) (_:↑aP<=10000) (_:0<=p/\p<=↑(sh s)) (_:(∀ (es:List Int) (q:Addr) (H':Hp),rows[s.toNat]?=⇑es->bw H' ↥q (aC (fH sh p es (dF aP)))->aI H H'->H q=none->Q ↥q H'))
def PK{aP:List aS}(h:fR aP):dF aP=[]↔aP=[]:=by
 refine⟨λe=>?_,λe=>by rw[e];rfl⟩
 cases aP with
 | nil=>rfl
 | cons it r =>
  have e1:dF (it::r)=fG it++dF r:=by unfold dF;rw[iT]
  rw[e1]at e;have e2:=(List.append_eq_nil_iff.mp e).1
  cases it with
  | win n=>cases e2
  | aK a b =>
   have ab:a<b:=(h (.aK a b) (by simp)).2;have:=fD a (b-a).toNat;have e3:run a (b-a).toNat=[]:=e2;rw[e3]at this;simp only[lM]at this;lia
theorem yI:aF ["rows","sheet","place","items","views"] ["rows","sheet","place","items"] (az uF):=eO
theorem qj:‹(4,25,["rows","sheet","place","items"],yH)›:=λD=>by
 refine eS D.SX.F yI λcU A zn s0 H vs Q E hr h=>?_;let⟨r,o,rows,s,p,aP,sh,rfl,R,h0,h1,hO,ok,ol,hp,k1⟩:=h;have hu:=gT hr;refine⟨_,(aj (aZ (i:=4) yI.nd (aH D.Pf (jK D) hr (aa (pv 0) (aa (bL (aa (pv 1) ah)) ah)))) (aj (aT (aH D.YR (gK D) hr (aa (kq hu (pv 4) (pv 1)) (aa (pv 2) (aa (pv 2) ah))))) (aj (bO (jd (mq (pv 3) (λ_=>rfl))) (au (aJ (aH D.MK (iz D) hr (aa (aO bu (pv 0) (pv 1)) ah)))) br) (au (aJ (aH D.Xp (we D) hr (aa (aO bu (pv 0) (pv 1)) (aa (pv 4) (aa (pv 2) (aa (pv 3) ah)))))))))),?_⟩;refine⟨Y,Y,ku,λL hL=>?_⟩;have s1:aI H (aN H L (.lst [.int s])):=ak hL _;refine⟨r,L,rows,[s],sh,rfl,R.at_.same s1,af,by simp,R.len,R.ents,R.snd,R.rk,(λx hx=>by rw[List.mem_singleton.mp hx];exact⟨h0,h1⟩),R.PJ,R.bd,λS kvs ks H2 hS hv tp sk hn s2 hS0=>?_⟩;have Vt:=sk s (by simp);let⟨a,ha,Ra⟩:=hv s Vt;have z:=jj.k (k:=Sum.inl s) hS;rw[ha]at z;have mZ:=s1.trans s2;have shl:=R.bd s h0 h1;have rol:=j5 (sh s);let⟨es,qL,b,O⟩:=(R.same mZ).one h0 h1;refine⟨Y,Y,S,Y,z,Y,Y,a,cF (sh s),p,p,rfl,Ra,by lia,⟨hp.1,Int.le_refl _,by rw[O.tt];exact hp.2⟩,λH3 s3=>?_⟩
 ·let⟨tV,abP,b',O3⟩:=(R.same (mZ.trans s3)).one h0 h1;have ee:es=tV:=oB (O.he.symm.trans O3.he);subst ee;have hO3:=hO.same (mZ.trans s3);let⟨o',ovs,eo,ho,to⟩:=id hO3;cases eo;exists Y,!ovs.isEmpty,.inl ⟨_,bG.of ho,rfl⟩;have el:=to.len
  cases aP with
  | nil =>
   have:ovs=[]:=List.eq_nil_of_length_eq_zero (by simpa using el);subst this;refine iX ?_;refine⟨Y,Y,r,Q,K,bG.of O3.hr,O3.ix,b',aC es,rfl,O3.it,gX O3.il (by decide),λq H4 I4 s4 hq=>?_⟩;refine k1 es q H4 O.he ?_ (mZ.trans (s3.trans s4)) (aR (mZ.trans s3) hq);let⟨e1,e2⟩:=mS es;rw[kH _ e2,e1]at I4;exact I4
  | cons it r0 =>
   have:(!ovs.isEmpty)=true:=by
    cases ovs with
    | nil=>simp at el
    | cons _ _=>rfl
   rw[this];refine eL ?_;refine⟨Y,Y,r,Q,K,bG.of O3.hr,O3.ix,Y,Y,Y,b',S,o,p,aC es,it::r0,kvs,sh,rfl,O3.it,s3 _ _ hS,λn hn=>?_,hO3,(mS es).2,ok,λn hn=>?_,gX O3.il (by decide),gX O3.rl (by decide),gX ol (by decide),λq H4 I4 s4 hq=>?_⟩
   ·have nx:=sZ h0 O.he hn;let⟨i,hi⟩:=List.getElem?_of_mem Vt;let⟨a2,e2,R2⟩:=hv n (List.mem_of_mem_take (tp.dn i s hi n nx));exact⟨a2,e2,R2.same s3⟩
   ·have nx:=sZ h0 O.he hn;let⟨n0,n1⟩:=R.snd.Bp nx;exact oZ R.snd R.rk R.PJ n n0 n1
   ·refine k1 es q H4 O.he ?_ (mZ.trans (s3.trans s4)) (aR (mZ.trans s3) hq);rw[(mS es).1]at I4;unfold fH;rw[if_neg (λz=>by cases (PK ok).mp z)];exact I4
def kD(a b:Int)(d:m9):List aS:=if d.2.2.2<=a\/b<=d.2.2.1 then [d.1] else if a<=d.2.2.1/\d.2.2.2<=b then [] else cQ (cy (kM 0 (a-d.2.2.1) 0 d.2.1++kM (b-d.2.2.1) (d.2.2.2-d.2.2.1) 0 d.2.1))
def tD(a b:Int)(d:m9):List aS:=if d.2.2.2<=a\/b<=d.2.2.1 then [] else if a<=d.2.2.1/\d.2.2.2<=b then [d.1] else cQ (cy (kM (a-d.2.2.1) (b-d.2.2.1) 0 d.2.1))
def Lq(sh:Int->List Int)(a b f e:Int):List Int:=if f+↑(aX sh e)<=a\/b<=f then [e] else if a<=f/\f+↑(aX sh e)<=b then [] else (aX sh e).take (a-f).toNat++(aX sh e).drop (b-f).toNat
def NS(sh:Int->List Int)(a b f e:Int):List Int:=if f+↑(aX sh e)<=a\/b<=f then [] else if a<=f/\f+↑(aX sh e)<=b then [e] else ((aX sh e).take (b-f).toNat).drop (a-f).toNat
def kE(sh:Int->List Int)(a b:Int):Int->List Int->List Int
 | _,[]=>[]
 | f,e::r=>Lq sh a b f e++kE sh a b (f+↑(aX sh e)) r
def tE(sh:Int->List Int)(a b:Int):Int->List Int->List Int
 | _,[]=>[]
 | f,e::r=>NS sh a b f e++tE sh a b (f+↑(aX sh e)) r
theorem xT(sh:Int->List Int)(a b:Int)(y:List Int):∀ (x:List Int) (f:Int),kE sh a b f (x++y)=kE sh a b f x++kE sh a b (f+↑(aU sh x)) y
 | [],f=>by simp[kE,aU]
 | e::x,f=>by
  rw[List.cons_append,kE,kE,xT sh a b y x,m8,bX,cT,Int.add_assoc]
  push_cast
  rfl
theorem xU(sh:Int->List Int)(a b:Int)(y:List Int):∀ (x:List Int) (f:Int),tE sh a b f (x++y)=tE sh a b f x++tE sh a b (f+↑(aU sh x)) y
 | [],f=>by simp[tE,aU]
 | e::x,f=>by
  rw[List.cons_append,tE,tE,xU sh a b y x,m8,bX,cT,Int.add_assoc]
  push_cast
  rfl
def YW{a f:Int}(h:f<a):(a-f).toNat=(a-(f+1)).toNat+1:=by lia
theorem PL{a f:Int}(h:a<=f):(a-f).toNat=0:=Int.toNat_of_nonpos (Int.sub_nonpos_of_le h)
theorem tn1{a f:Int}(h:a<=f):(a-(f+1)).toNat=0:=PL (Int.le_trans h (Int.le_of_lt (Int.lt_succ f)))
theorem nS{a f:Int}(h:¬ f+1<=a):a<=f:=Int.not_lt.mp h
theorem PM(sh:Int->List Int){a b:Int}(ab:a<b):∀ (n:Nat) (x f:Int),0<=x->kE sh a b f (run x n)=(run x n).take (a-f).toNat++(run x n).drop (b-f).toNat
 | 0,_,_,_=>by simp[run,kE]
 | n+1,x,f,h=>by
  rw[run,kE,PM sh ab n (x+1) _ ∅];unfold Lq;rw[sW sh h];show (if f+1<=a\/b<=f then [x] else if a<=f/\f+1<=b then [] else _)++((run (x+1) n).take (a-(f+1)).toNat++(run (x+1) n).drop (b-(f+1)).toNat)=_;by_cases c1:f+1<=a
  ·rw[if_pos (.inl c1),YW c1,YW (Int.lt_trans c1 ab)];rfl
  ·by_cases c2:b<=f
   ·rw[if_pos (.inr c2),PL (nS c1),PL c2,tn1 (nS c1),tn1 c2];rfl
   ·rw[if_neg (λz=>z.elim c1 c2),if_pos ⟨nS c1,Int.not_le.mp c2⟩,PL (nS c1),YW (Int.not_le.mp c2),tn1 (nS c1)];rfl
theorem PN(sh:Int->List Int){a b:Int}(ab:a<b):∀ (n:Nat) (x f:Int),0<=x->tE sh a b f (run x n)=((run x n).take (b-f).toNat).drop (a-f).toNat
 | 0,_,_,_=>by simp[run,tE]
 | n+1,x,f,h=>by
  rw[run,tE,PN sh ab n (x+1) _ ∅];unfold NS;rw[sW sh h];show (if f+1<=a\/b<=f then [] else if a<=f/\f+1<=b then [x] else _)++((run (x+1) n).take (b-(f+1)).toNat).drop (a-(f+1)).toNat=_;by_cases c1:f+1<=a
  ·rw[if_pos (.inl c1),YW c1,YW (Int.lt_trans c1 ab)];rfl
  ·by_cases c2:b<=f
   ·rw[if_pos (.inr c2),PL c2,tn1 c2];simp
   ·rw[if_neg (λz=>z.elim c1 c2),if_pos ⟨nS c1,Int.not_le.mp c2⟩,PL (nS c1),YW (Int.not_le.mp c2),tn1 (nS c1)];rfl
def M6{a b t:Int}{r:Row}(ok:∀ p∈r,p.1<=p.2)(h:↑(bK r)<=t.toNat):bK (cy (kM 0 a 0 r++kM b t 0 r))=(bK r).take a.toNat++(bK r).drop b.toNat:=by
 rw[nA _ (WW (DM _ _ _ _) (DM _ _ _ _)),cZ,sN _ _ _ _ ok,sN _ _ _ _ ok];show ((bK r).take (a-0).toNat).drop 0++((bK r).take (t-0).toNat).drop (b-0).toNat=_;rw[Int.sub_zero,Int.sub_zero,Int.sub_zero,uv h];rfl
def abR(sh:Int->List Int){a b:Int}(ab:a<b)(f:Int)(it:aS)(h:lJ it):dF (kD a b (it,cV sh it,f,f+i7 (cV sh it)))=kE sh a b f (fG it):=by
 have tt:=kJ sh it h
 have sp:dF (cQ (cy (kM 0 (a-f) 0 (cV sh it)++kM (b-f) (f+i7 (cV sh it)-f) 0 (cV sh it))))=(aU sh (fG it)).take (a-f).toNat++(aU sh (fG it)).drop (b-f).toNat:=by
  rw[oY,M6 (v8 sh it h) (by rw[j3 sh it h,tt];lia),j3 sh it h]
 unfold kD;show dF (if f+i7 (cV sh it)<=a\/b<=f then [it] else if a<=f/\f+i7 (cV sh it)<=b then [] else cQ (cy (kM 0 (a-f) 0 (cV sh it)++kM (b-f) (f+i7 (cV sh it)-f) 0 (cV sh it))))=_;have c1:(f+i7 (cV sh it)<=a\/b<=f)=(f+↑(aU sh (fG it))<=a\/b<=f):=by rw[tt]
 have c2:(a<=f/\f+i7 (cV sh it)<=b)=(a<=f/\f+↑(aU sh (fG it))<=b):=by rw[tt]
 simp only[c1,c2]
 cases it with
 | win n =>
  have e1:aU sh (fG (.win n))=aX sh (-1-n):=by show aU sh [-1-n]=_;rw[bX];simp[aU]
  rw[e1]at sp ⊢;show _=kE sh a b f [-1-n];rw[kE,kE,fV];unfold Lq;split
  ·rfl
  ·split
   ·rfl
   ·exact sp
 | aK x y =>
  have e1:aU sh (fG (.aK x y))=run x (y-x).toNat:=lZ sh _ _ h.1;rw[e1]at sp ⊢;show _=kE sh a b f (run x (y-x).toNat);rw[PM sh ab _ _ _ h.1];have rl:=fD x (y-x).toNat;split
  ·rename_i c;rw[kG];rcases c with c|c
   ·rw[uv ∅,zF ∅,fV];rfl
   ·rw[PL (Int.le_trans (Int.le_of_lt ab) c),PL c];rfl
  ·split
   ·rename_i c;rw[PL c.1,zF ∅];rfl
   ·exact sp
def abS(sh:Int->List Int){a b:Int}(ab:a<b)(f:Int)(it:aS)(h:lJ it):dF (tD a b (it,cV sh it,f,f+i7 (cV sh it)))=tE sh a b f (fG it):=by
 have tt:=kJ sh it h
 have sp:dF (cQ (cy (kM (a-f) (b-f) 0 (cV sh it))))=((aU sh (fG it)).take (b-f).toNat).drop (a-f).toNat:=by
  rw[oY,pZ _ _ _ (v8 sh it h),j3 sh it h]
 unfold tD;show dF (if f+i7 (cV sh it)<=a\/b<=f then [] else if a<=f/\f+i7 (cV sh it)<=b then [it] else cQ (cy (kM (a-f) (b-f) 0 (cV sh it))))=_;rw[tt]
 cases it with
 | win n =>
  have e1:aU sh (fG (.win n))=aX sh (-1-n):=by show aU sh [-1-n]=_;rw[bX];simp[aU]
  rw[e1]at sp ⊢;show _=tE sh a b f [-1-n];rw[tE,tE,fV];unfold NS;split
  ·rfl
  ·split
   ·rfl
   ·exact sp
 | aK x y =>
  have e1:aU sh (fG (.aK x y))=run x (y-x).toNat:=lZ sh _ _ h.1;rw[e1]at sp ⊢;show _=tE sh a b f (run x (y-x).toNat);rw[PN sh ab _ _ _ h.1];have rl:=fD x (y-x).toNat;split
  ·rename_i c;rcases c with c|c
   ·rw[zF (by rw[gr];lia)];rfl
   ·rw[PL c];simp[dF]
  ·split
   ·rename_i c;rw[kG,PL c.1,uv ∅];rfl
   ·exact sp
theorem D9(sh:Int->List Int){a b:Int}(ab:a<b):∀ (aP:List aS) (f:Int),fR aP->dF ((bU sh f aP).flatMap (kD a b))=kE sh a b f (dF aP)
 | [],f,_=>rfl
 | it::r,f,h=>by
  have h1:=h it (by simp);rw[bU,iT,ff,abR sh ab f it h1,D9 sh ab r _ λi hi=>h i (nI _ hi)];have e:dF (it::r)=fG it++dF r:=by unfold dF;rw[iT]
  rw[e,xT,kJ sh it h1]
theorem Gs(sh:Int->List Int){a b:Int}(ab:a<b):∀ (aP:List aS) (f:Int),fR aP->dF ((bU sh f aP).flatMap (tD a b))=tE sh a b f (dF aP)
 | [],f,_=>rfl
 | it::r,f,h=>by
  have h1:=h it (by simp);rw[bU,iT,ff,abS sh ab f it h1,Gs sh ab r _ λi hi=>h i (nI _ hi)];have e:dF (it::r)=fG it++dF r:=by unfold dF;rw[iT]
  rw[e,xU,kJ sh it h1]
def Vu{a b:Int}{d:m9}(h:lJ d.1)(g:lI d.2.1):fR (kD a b d):=by
 unfold kD;split
 ·exact fR.one h
 ·split
  ·exact λi hi=>by cases hi
  ·exact vZ (oW λp hp=>(List.mem_append.mp hp).elim (Au _ _ _ _ g p) (Au _ _ _ _ g p))
def abT{a b:Int}{d:m9}(h:lJ d.1)(g:lI d.2.1):fR (tD a b d):=by
 unfold tD;split
 ·exact λi hi=>by cases hi
 ·split
  ·exact fR.one h
  ·exact AD g
def JF(a b:Int)(d:m9):↑(kD a b d)<=↑d.2.1+↑d.2.1+1:=by
 unfold kD;split
 ·simp
 ·split
  ·simp
  ·rw[zE];refine gX (lY _) ?_;rw[cT];have:=jZ 0 (a-d.2.2.1) d.2.1 0;have:=jZ (b-d.2.2.1) (d.2.2.2-d.2.2.1) d.2.1 0;lia
def PR(a b:Int)(d:m9):↑(tD a b d)<=↑d.2.1+↑d.2.1+1:=by
 unfold tD;split
 ·simp
 ·split
  ·simp
  ·exact gX (sX _ _ _) ∅
theorem l5(sh:Int->List Int){g:m9->List aS}(hg:∀ d,↑(g d)<=↑d.2.1+↑d.2.1+1):∀ (aP:List aS) (f:Int),↑((bU sh f aP).flatMap g)<=↑(bx sh aP)+↑(bx sh aP)+↑aP
 | [],_=>by simp[bU]
 | it::r,f=>by
  rw[bU,iT,cT];have a:=hg (it,cV sh it,f,f+i7 (cV sh it));have b:=l5 sh hg r (f+i7 (cV sh it));have e:bx sh (it::r)=cV sh it++bx sh r:=by unfold bx;rw[iT];rfl
  rw[e,cT,jS];simp only at a;lia
theorem Gu(sh:Int->List Int)(it:aS)(row:Row)(fi la:Int):∀ (aP:List aS) (f:Int),(it,row,fi,la)∈bU sh f aP->∃ So∈aP,row=cV sh So
 | [],_,h=>by cases h
 | i0::r0,f,h=>by
  rw[bU]at h;rcases List.mem_cons.mp h with e|e
  ·cases e;exact⟨it,by simp,rfl⟩
  ·let⟨i1,m1,e1⟩:=Gu sh it row fi la r0 _ e;exact⟨i1,nI _ m1,e1⟩
theorem Dc(sh:Int->List Int):∀ (aP:List aS) (f:Int) (d:m9),d∈bU sh f aP->d.1∈aP
 | [],_,_,h=>by cases h
 | i0::r0,f,d,h=>by
  rw[bU]at h;rcases List.mem_cons.mp h with e|e
  ·subst e;simp
  ·exact nI _ (Dc sh r0 _ d e)
def Gv(sh:Int->List Int){a b n:Int}{aP:List aS}(h:aS.win n∈(bU sh 0 aP).flatMap (kD a b)):aS.win n∈aP:=by
 let⟨d,hd,hm⟩:=List.mem_flatMap.mp h;unfold kD at hm;split at hm
 ·rw[List.mem_singleton.mp hm];exact Dc sh aP 0 d hd
 ·split at hm
  ·cases hm
  ·unfold cQ at hm;let⟨p,_,e⟩:=List.mem_map.mp hm;cases e
theorem Dd{H:Hp}{A:Addr}{l:List aS}{vs:List V}(h:H A=⇑(.lst vs))(t:cj (cS H) vs l):bw H ↥A l:=⟨A,vs,rfl,h,t⟩
def bR(sh:Int->List Int)(a b:Int)(es:List Int):List Int:=if a=b then es else kE sh a b 0 es
def iA(sh:Int->List Int)(a b:Int)(es:List Int):List Int:=if a=b then [] else tE sh a b 0 es
class inductive PU
 | mk (r S:Addr) (a b:Int) (aP:List aS) (kvs:List (dN × V)) (sh:Int->List Int) (_:vs=[↥r,↥S,.int a,.int b]) (_:bw H ↥r aP) (_:H S=⇑(.dK kvs)) (_:xQ H kvs sh aP) (_:↑aP<=10000) (_:↑(bx sh aP)<=20000) (_ :
 ∀ (t L M:Addr) (H':Hp),H' t=⇑(.tup [↥L,↥M])->bw H' ↥L ((bU sh 0 aP).flatMap (kD a b))->bw H' ↥M ((bU sh 0 aP).flatMap (tD a b))->aI H H'->Q ↥t H')
theorem jM:aF ["items","views","start","stop","left","taken","item","row","first","last"] ["items","views","start","stop"] (az DJ):=eO
theorem De:‹(3,26,["items","views","start","stop"],PU)›:=λD=>by
 have Ea:bq P w K mg zt cO 1 (aY 7) (bf 7) ["row","start","stop"] FP:=sV D;specialize eS D.Xq.F jM;let⟨r,S,p,q,aP,kvs,sh,rfl,hI,hS,hW,l1,l2,k⟩:=h;exists _,(aj (aZ (i:=4) jM.nd (bL ah)) (aj (aZ (i:=5) jM.nd (bL ah)) (aj (dX PassesOwn.never rfl (cu (aH D.Xo (Gr D) hr (aa (pv 0) (aa (pv 1) ah)))) (kQ (n:=4) rfl (bP (bQ (i:=6) jM.nd) (bP (bQ (i:=7) jM.nd) (bP (bQ (i:=8) jM.nd) (bP (bQ (i:=9) jM.nd) fX))))) (au (bO (PW.pt (Kz (aV fY (pv 9) (pv 2) (bh _)) (Ih (aV fY (pv 3) (pv 8) (bh _))))) (au (aT (dQ qF jV jW bS (pv 4) (aa (pv 6) ah)))) (au (bO (PW.pt (kO (aV fY (pv 2) (pv 8) (bh _)) (j6 (aV fY (pv 9) (pv 3) (bh _))))) (au (aT (dQ qF jV jW bS (pv 5) (aa (pv 6) ah)))) (aj (ux (i:=4) jM.nd rfl (Or.inl rfl) (aH D.Gf (mR D) hr (aa (bz jC (aH D.Xi Ea hr (aa (pv 7) (aa ay (aa (bz cY (pv 2) (pv 8)) ah)))) (aH D.Xi Ea hr (aa (pv 7) (aa (bz cY (pv 3) (pv 8)) (aa (bz cY (pv 9) (pv 8)) ah))))) ah)) xM) (au (ux (i:=5) jM.nd rfl (Or.inl rfl) (aH D.Gf (mR D) hr (aa (aH D.Xi Ea hr (aa (pv 7) (aa (bz cY (pv 2) (pv 8)) (aa (bz cY (pv 3) (pv 8)) ah)))) ah)) xM)))))))) (au (aJ (cH (aa (pv 4) (aa (pv 5) ah))))))));refine⟨gQ,λA hA=>⟨gQ,λB hB=>?_⟩⟩;have sA:aI H (aN H A (.lst [])):=ak hA _;have sB:aI _ (aN (aN H A (.lst [])) B (.lst [])):=ak hB _;have s0:=sA.trans sB;have Br:A≠B:=aA af hB;have NQ:=aR sA hB;refine⟨Y,Y,r,S,aP,kvs,sh,λa=>a≠A/\a≠B,rfl,hI.same s0,s0 _ _ hS,hW.same s0,by lia,(λit hi=>by have:=wc sh hi;lia),?_,?_,λD dv H1 hD Sd s1 _=>?_⟩
 ·intro n a hn hv;let⟨b,e,as,hb,_⟩:=hW n hn;rw[hv]at e;cases e;exact⟨aA hb hA,aA hb NQ⟩
 ·intro a ha;exact⟨(aA (sB _ _ af) ha).symm,(aA af ha).symm⟩
 have hA1:=s1 _ _ (sB _ _ (af (H:=H) (a:=A) (o:=.lst [])));have hB1:=s1 _ _ (af (H:=aN H A (.lst [])) (a:=B) (o:=.lst []))
 have nD:D≠A/\D≠B:=by
  rename_i hD0;exact⟨(aA (sB _ _ af) hD0).symm,(aA af hD0).symm⟩
 have afB:=l5 sh (JF p q) aP 0;have afC:=l5 sh (PR p q) aP 0;refine⟨D,rfl,⟨_,bG.of hD⟩,dB (K:=K) (a:=D) (xs:=dv) (λi σ H2=>∃ u1 u2 u3 u4:Option V,σ=[⇑↥r,⇑↥S,⇑(.int p),⇑(.int q),⇑↥A,⇑↥B,u1,u2,u3,u4]/\lK H1 A B (((bU sh 0 aP).take i).flatMap (kD p q)) (((bU sh 0 aP).take i).flatMap (tD p q)) H2) ⟨none,none,none,none,rfl,⟨_,hA1,.nil⟩,⟨_,hB1,.nil⟩,λ_ _ e _ _=>e⟩ (by rintro i σ H2 _ ⟨_,_,_,_,_,pv⟩;exact bG.of (pv.k _ _ hD nD.1 nD.2)) ?_ ?_⟩
 ·rintro i x σ H2 hi ⟨u1,u2,u3,u4,rfl,pv⟩;let⟨d,ed,F3⟩:=Sd.get hi;have hd2:=F3.Vr hA1 hB1 (λa h=>h) pv.k;let⟨a,ra,xi,rfl,YU,hxi,XX,YV⟩:=hd2;have eA:=sY (kD p q) ed;have eB:=sY (tD p q) ed;have bA:=iJ (kD p q) (bU sh 0 aP) i;have bB:=iJ (tD p q) (bU sh 0 aP) i;have bA1:=iJ (kD p q) (bU sh 0 aP) (i+1);have bB1:=iJ (tD p q) (bU sh 0 aP) (i+1);let⟨v1,hv1,t1⟩:=pv.a;let⟨v2,hv2,t2⟩:=pv.b;have z1:=t1.len;have z2:=t2.len;let⟨it,row,fi,la⟩:=d
  have rl:↑row<=20000:=by
   let⟨i1,m1,rfl⟩:=Gu sh it row fi la aP 0 (nJ ed);have:=wc sh m1;lia
  have mV:↑v1<sizeLine:=aQ ∅
  have AF:(la<=p\/q<=fi)->lK H1 A B (((bU sh 0 aP).take (i+1)).flatMap (kD p q)) (((bU sh 0 aP).take (i+1)).flatMap (tD p q)) (aN H2 A (.lst (v1++[xi]))):=λc=>by
   rw[eA,eB];have e1:kD p q (it,row,fi,la)=[it]:=by unfold kD;rw[if_pos c]
   have e2:tD p q (it,row,fi,la)=[]:=by unfold tD;rw[if_pos c]
   rw[e1,e2,fV];exact pv.Lo Br hv1 (.cons hxi .nil)
  exists a,Y,cW.of YU,rfl,E,rfl,E,rfl,E,rfl,Z;refine⟨Y,Y,Z,Y,cR (λc=>iX ?_) (λc=>?_)⟩
  ·exact⟨Y,.inl ⟨rfl,_,bG.of hv1⟩,Y,A,Z,hv1,mV,Q,Y,AF (.inl (of_decide_eq_true c))⟩
  have c':¬ la<=p:=λz=>c (decide_eq_true z);refine⟨Y,Y,Z,Y,cR (λc2=>?_) (λc2=>?_)⟩
  ·exact⟨Y,.inl ⟨rfl,_,bG.of hv1⟩,Y,A,Z,hv1,mV,Q,Y,AF (.inr (of_decide_eq_true c2))⟩
  have M4:¬ q<=fi:=λz=>c2 (decide_eq_true z);have n1:¬ (la<=p\/q<=fi):=λz=>z.elim c' M4
  have part:¬ (p<=fi/\la<=q)->lK H1 A B (((bU sh 0 aP).take i).flatMap (kD p q)) (((bU sh 0 aP).take i).flatMap (tD p q)) H2->kD p q (it,row,fi,la)=cQ (cy (kM 0 (p-fi) 0 row++kM (q-fi) (la-fi) 0 row))/\tD p q (it,row,fi,la)=cQ (cy (kM (p-fi) (q-fi) 0 row)):=λc3 _=>by
   exists ?_
   ·unfold kD;rw[if_neg n1,if_neg c3]
   ·unfold tD;rw[if_neg n1,if_neg c3]
  have go:¬ (p<=fi/\la<=q)->∀ (q1 q2:Addr) (v3:List V) (H4:Hp),H4 q2=⇑(.lst v3)->cj (cS H4) v3 (cQ (cy (kM 0 (p-fi) 0 row++kM (q-fi) (la-fi) 0 row)))->aI H2 H4->↑v1+↑v3<=sizeLine/\lK H1 A B (((bU sh 0 aP).take (i+1)).flatMap (kD p q)) (((bU sh 0 aP).take i).flatMap (tD p q)) (aN H4 A (.lst (v1++v3)))/\bW (aN H4 A (.lst (v1++v3))) ra row/\(aN H4 A (.lst (v1++v3))) B=⇑(.lst v2):=λc3 q1 q2 v3 H4 h3 t3 s4=>by
   let⟨e1,e2⟩:=part c3 pv;have z3:=t3.len;rw[eA,e1,cT]at bA1;have M5:=s4 _ _ hv1;refine⟨Nat.le_of_lt (aQ ∅),?_,(XX.same s4).keep M5 YV.1 (aG A _ _),by rw[aL Br.symm];exact s4 _ _ hv2⟩;rw[eA,e1];exact (pv.same s4).Lo Br M5 t3
  have go2:¬ (p<=fi/\la<=q)->∀ (v4:List V) (H5 H7:Hp),lK H1 A B (((bU sh 0 aP).take (i+1)).flatMap (kD p q)) (((bU sh 0 aP).take i).flatMap (tD p q)) H5->H5 B=⇑(.lst v2)->cj (cS H7) v4 (cQ (cy (kM (p-fi) (q-fi) 0 row)))->aI H5 H7->↑v2+↑v4<=sizeLine/\lK H1 A B (((bU sh 0 aP).take (i+1)).flatMap (kD p q)) (((bU sh 0 aP).take (i+1)).flatMap (tD p q)) (aN H7 B (.lst (v2++v4))):=λc3 v4 H5 H7 pv5 h5 t4 s7=>by
   let⟨e1,e2⟩:=part c3 pv;have z4:=t4.len;rw[eB,e2,cT]at bB1;refine⟨Nat.le_of_lt (aQ ∅),?_⟩;rw[eB,e2];exact (pv5.same s7).Lp Br (s7 _ _ h5) t4
  have pl1:=jZ 0 (p-fi) row 0;have pl2:=jZ (q-fi) (la-fi) row 0;have pl3:=jZ (p-fi) (q-fi) row 0;refine⟨Y,Y,Z,Y,O5 (λz=>⟨Y,Y,Z,Y,z⟩) (λc5=>?_) (λc5=>?_)⟩
  ·exists Y,.inl ⟨rfl,_,bG.of hv2⟩,Y,B,Z,hv2,aQ ∅,Q,Y;rw[eA,eB];have e1:kD p q (it,row,fi,la)=[]:=by unfold kD;rw[if_neg n1,if_pos c5]
   have e2:tD p q (it,row,fi,la)=[it]:=by unfold tD;rw[if_neg n1,if_pos c5]
   rw[e1,e2,fV];exact pv.Lp Br hv2 (.cons hxi .nil)
  ·refine⟨Y,Y,Y,Y,Z,ra,row,0,p-fi,rfl,XX,by lia,λq1 H3 R3 s3 Rm=>?_⟩;let⟨as3,ha3,pa3⟩:=id R3;have n3:=pa3.len;refine⟨Y,Y,Y,Z,Y,Y,Z,ra,row,q-fi,la-fi,rfl,XX.same s3,by lia,λq2 H4 R4 s4 eN=>?_⟩;let⟨as4,ha4,pa4⟩:=id R4;have n4:=pa4.len;refine⟨q1,q2,Z,s4 _ _ ha3,ha4,(by rw[cB,cB];exact gG (aQ ∅)),λm hm=>?_⟩;have s5:aI H4 (aN H4 m (.lst (as3.map V.ref++as4.map V.ref))):=ak hm _;refine⟨m,kM 0 (p-fi) 0 row++kM (q-fi) (la-fi) 0 row,rfl,⟨as3++as4,by rw[af,gE],bM.append ((pa3.same s4).same s5) (pa4.same s5)⟩,by rw[cT];lia,λq3 H6 I6 s6 Pk=>?_⟩;let⟨q3',v3,e3,h3,t3⟩:=I6;cases e3;have s26:=s3.trans (s4.trans (s5.trans s6));let⟨g1,g2,g3,g4⟩:=go c5 q1 q3 v3 H6 h3 t3 s26;exists A,q3,Z,s26 _ _ hv1,h3,g1;refine⟨Y,Y,Y,Y,Z,Y,Y,Z,ra,row,p-fi,q-fi,rfl,g3,by lia,λq4 H7 R7 s7 TH=>⟨q4,Y,R7,by lia,λq5 H8 I8 s8 hq5=>?_⟩⟩;let⟨q5',v4,e4,h4,t4⟩:=I8;cases e4;let⟨f1,f2⟩:=go2 c5 v4 _ H8 g2 g4 t4 (s7.trans s8);exact⟨B,q5,Z,(s7.trans s8) _ _ g4,h4,f1,Q,Y,f2⟩
 ·rintro σ H2 ⟨u1,u2,u3,u4,rfl,pv⟩;have dl:=Sd.len;rw[dl,gH]at pv;let⟨v1,hv1,t1⟩:=pv.a;let⟨v2,hv2,t2⟩:=pv.b;have sm:aI H H2:=λa ob e=>pv.k a ob (s1 _ _ (s0 _ _ e)) (aA e hA) (aA e NQ);refine⟨Y,Y,oX,λt ht=>k t A B _ af ?_ ?_ (sm.trans (ak ht _))⟩
  ·exact (Dd hv1 t1).same (ak ht _)
  ·exact (Dd hv2 t2).same (ak ht _)
class inductive Gw
 | mk (r:Addr) (rows:cJ) (s a b:Int) (sh:Int->List Int) (_:vs=[↥r,.int s,.int a,.int b]) (_:qg H r rows sh) (_:0<=s) (_:s<↑rows) (_:Sw a b ↑(sh s)) (_:(∀ (es:List Int) (q:Addr) (H':Hp),rows[s.toNat]?=⇑es->bw H' ↥q (aC (bR sh a b es))->aI H H'->H q=none->Q ↥q H'))
theorem yJ:aF ["rows","sheet","start","stop","views"] ["rows","sheet","start","stop"] (az uG):=eO
theorem Eb:‹(4,27,["rows","sheet","start","stop"],Gw)›:=λD=>by
 refine eS D.aaL.F yJ λcU A zn s0 H vs Q E hr h=>?_;let⟨r,rows,s,p,q,sh,rfl,R,h0,h1,hp,k1⟩:=h;have hu:=gT hr;exists _,(aj (aZ (i:=4) yJ.nd (aH D.Pf (jK D) hr (aa (pv 0) (aa (bL (aa (pv 1) ah)) ah)))) (aj (aT (aH D.YR (gK D) hr (aa (kq hu (pv 4) (pv 1)) (aa (pv 2) (aa (pv 3) ah))))) (aj (bO (aV dY (pv 2) (pv 3) (bh _)) (au (aJ (aH D.MK (iz D) hr (aa (aO bu (pv 0) (pv 1)) ah)))) br) (au (aJ (aH D.MK (iz D) hr (aa (aO aW (aH D.Xq (De D) hr (aa (aO bu (pv 0) (pv 1)) (aa (pv 4) (aa (pv 2) (aa (pv 3) ah))))) ay) ah)))))));refine⟨Y,Y,ku,λL hL=>?_⟩;have s1:aI H (aN H L (.lst [.int s])):=ak hL _;refine⟨r,L,rows,[s],sh,rfl,R.at_.same s1,af,by simp,R.len,R.ents,R.snd,R.rk,(λx hx=>by rw[List.mem_singleton.mp hx];exact⟨h0,h1⟩),R.PJ,R.bd,λS kvs ks H2 hS hv tp sk hn s2 hS0=>?_⟩;have Vt:=sk s (by simp);let⟨a,ha,Ra⟩:=hv s Vt;have z:=jj.k (k:=Sum.inl s) hS;rw[ha]at z;have mZ:=s1.trans s2;have shl:=R.bd s h0 h1;have rol:=j5 (sh s);let⟨es,qL,b,O⟩:=(R.same mZ).one h0 h1;refine⟨Y,Y,S,Y,z,Y,Y,a,cF (sh s),p,q,rfl,Ra,by lia,by rw[O.tt];exact hp,λH3 s3=>?_⟩
 ·let⟨tV,abP,b',O3⟩:=(R.same (mZ.trans s3)).one h0 h1;have ee:es=tV:=oB (O.he.symm.trans O3.he);subst ee;let⟨e1,e2⟩:=mS es;refine⟨Y,Y,rfl,Y,cR (λc=>?_) (λc=>?_)⟩
  ·have c':p=q:=V.int.inj (of_decide_eq_true c);refine⟨Y,Y,r,Q,K,bG.of O3.hr,O3.ix,b',aC es,rfl,O3.it,gX O3.il (by decide),λo H4 I4 s4 ho=>?_⟩;refine k1 es o H4 O.he ?_ (mZ.trans (s3.trans s4)) (aR (mZ.trans s3) ho);rw[kH _ e2,e1]at I4;unfold bR;rw[if_pos c'];exact I4
  ·have c':¬ p=q:=λz=>c (by rw[z];exact decide_eq_true rfl);have pq:p<q:=by have:=hp.2.1;lia
   refine⟨Y,Y,r,Q,K,bG.of O3.hr,O3.ix,Y,Y,Y,b',S,p,q,aC es,kvs,sh,rfl,O3.it,s3 _ _ hS,λn hn=>?_,gX O3.il (by decide),gX O3.rl (by decide),λt L M H4 ht hL4 hM4 s4=>?_⟩
   ·have nx:=sZ h0 O.he hn;let⟨i,hi⟩:=List.getElem?_of_mem Vt;let⟨a2,e2,R2⟩:=hv n (List.mem_of_mem_take (tp.dn i s hi n nx));exact⟨a2,e2,R2.same s3⟩
   have nn:Tw sh (aC es):=λn hn=>by
    have nx:=sZ h0 O.he hn;let⟨n0,n1⟩:=R.snd.Bp nx;exact oZ R.snd R.rk R.PJ n n0 n1
   have NR:=zD sh (aC es) 0 e2 nn;have lk:fR ((bU sh 0 (aC es)).flatMap (kD p q)):=v9 λd hd=>Vu (NR d hd).1 (NR d hd).2;have ll:=l5 sh (JF p q) (aC es) 0;have oil:=O3.il;have orl:=O3.rl;refine⟨t,Q,K,cW.of ht,rfl,L,Y,hL4,by lia,λo H5 I5 s5 ho=>?_⟩;refine k1 es o H5 O.he ?_ (mZ.trans (s3.trans (s4.trans s5))) (aR (mZ.trans (s3.trans s4)) ho);rw[kH _ lk,D9 sh pq _ _ e2,e1]at I5;unfold bR;rw[if_neg c'];exact I5
def lS(sh:Int->List Int)(a b to:Int)(es:List Int):List Int:=if a=b then es else aE sh to 0 (kE sh a b 0 es)++tE sh a b 0 es++bE sh to 0 (kE sh a b 0 es)
def Mv(a b to n:Int):Prop:=Sw a b n/\0<=to/\to<=n-(b-a)
def PV(sh:Int->List Int)(r:Row):bx sh (cQ r)=r:=by
 unfold bx cQ;rw[List.flatMap_map]
 induction r with
 | nil=>rfl
 | cons p r ih=>rw[iT,ih];rfl
theorem Df(sh:Int->List Int)(a b:Int):∀ (aP:List aS) (f:Int),↑(bx sh ((bU sh f aP).flatMap (kD a b)))<=↑(bx sh aP)+↑(bx sh aP)
 | [],_=>by simp[bU,bx]
 | it::r,f=>by
  have ih:=Df sh a b r (f+i7 (cV sh it));have e:bx sh (it::r)=cV sh it++bx sh r:=by unfold bx;rw[iT];rfl
  have one:↑(bx sh (kD a b (it,cV sh it,f,f+i7 (cV sh it))))<=↑(cV sh it)+↑(cV sh it):=by
   unfold kD;split
   ·rw[jm];show ↑(cV sh it)<=_;lia
   ·split
    ·simp[bx]
    ·rw[PV];refine gX (lY _) ?_;rw[cT];have:=jZ 0 (a-f) (cV sh it) 0;have:=jZ (b-f) (f+i7 (cV sh it)-f) (cV sh it) 0;simp only;lia
  rw[bU,iT,eG,cT,e,cT];lia
class inductive BH
 | mk (r:Addr) (rows:cJ) (s a b to:Int) (sh:Int->List Int) (_:vs=[↥r,.int s,.int a,.int b,.int to]) (_:qg H r rows sh) (_:0<=s) (_:s<↑rows) (_:Mv a b to ↑(sh s)) (_:(∀ (es:List Int) (q:Addr) (H':Hp),rows[s.toNat]?=⇑es->bw H' ↥q (aC (lS sh a b to es))->aI H H'->H q=none->Q ↥q H'))
def wN.mid{i:Int}(h0:-300000<i)(h1:i<300000):wN i:=by
 have a:(300000:Int)<10^60:=by decide
 exact⟨by lia,by lia⟩
theorem wN.XY{i:Int}(h:-100000<i/\i<100000):wN i:=wN.mid ∅ ∅
theorem iZ:aF ["rows","sheet","start","stop","to","views","rest","left","taken"] ["rows","sheet","start","stop","to"] (az pM):=eO
theorem AG:‹(4,28,["rows","sheet","start","stop","to"],BH)›:=λD=>by
 refine eS D.aaM.F iZ λcU A zn s0 H vs Q E hr h=>?_;let⟨r,rows,s,p,q,to,sh,rfl,R,h0,h1,mv,k1⟩:=h;have hu:=gT hr;exists _,(aj (aZ (i:=5) iZ.nd (aH D.Pf (jK D) hr (aa (pv 0) (aa (bL (aa (pv 1) ah)) ah)))) (aj (aT (aH D.YR (gK D) hr (aa (kq hu (pv 5) (pv 1)) (aa (pv 2) (aa (pv 3) ah))))) (aj (aZ (i:=6) iZ.nd (bz cY (fO.vR D.Xh (D.T.oq _ D.Xh.m) (D4 D) hr (aa (kq hu (pv 5) (pv 1)) ah)) (bz cY (pv 3) (pv 2)))) (aj (bO (jd (qW fY fY ay (pv 4) (pv 6))) (au iV) br) (aj (bO (aV dY (pv 2) (pv 3) (bh _)) (au (aJ (aH D.MK (iz D) hr (aa (aO bu (pv 0) (pv 1)) ah)))) br) (aj (mj (aH D.Xq (De D) hr (aa (aO bu (pv 0) (pv 1)) (aa (pv 5) (aa (pv 2) (aa (pv 3) ah))))) (kQ (n:=2) rfl (bP (bQ (i:=7) iZ.nd) (bP (bQ (i:=8) iZ.nd) fX)))) (au (aJ (aH D.Xp (we D) hr (aa (pv 7) (aa (pv 5) (aa (pv 4) (aa (pv 8) ah)))))))))))));refine⟨Y,Y,ku,λL hL=>?_⟩;have s1:aI H (aN H L (.lst [.int s])):=ak hL _;refine⟨r,L,rows,[s],sh,rfl,R.at_.same s1,af,by simp,R.len,R.ents,R.snd,R.rk,(λx hx=>by rw[List.mem_singleton.mp hx];exact⟨h0,h1⟩),R.PJ,R.bd,λS kvs ks H2 hS hv tp sk hn s2 hS0=>?_⟩;have Vt:=sk s (by simp);let⟨a,ha,Ra⟩:=hv s Vt;have z:=jj.k (k:=Sum.inl s) hS;rw[ha]at z;have mZ:=s1.trans s2;have shl:=R.bd s h0 h1;have rol:=j5 (sh s);let⟨es,qL,b,O⟩:=(R.same mZ).one h0 h1;refine⟨Y,Y,S,Y,z,Y,Y,a,cF (sh s),p,q,rfl,Ra,by lia,by rw[O.tt];exact mv.1,λH3 s3=>?_⟩
 ·have hp:=mv.1;let⟨tV,abP,b',O3⟩:=(R.same (mZ.trans s3)).one h0 h1;have ee:es=tV:=oB (O.he.symm.trans O3.he);subst ee;let⟨e1,e2⟩:=mS es;have z3:=jj.k (k:=Sum.inl s) (s3 _ _ hS);rw[ha]at z3;refine⟨Y,Y,S,Y,z3,a,cF (sh s),rfl,Ra.same s3,by lia,λH4 s4=>?_⟩;rw[O.tt];exists Y,Y,Z,Z;exists Y,Z,Y;rw[decide_eq_true mv.2.1];refine cR (λ_=>?_) (λc=>absurd rfl c);exists Y,Z,Y;rw[decide_eq_true mv.2.2];refine eL ?_;have O4:bw H4 ↥b' (aC es):=O3.it.same s4;have hr4:=s4 _ _ O3.hr;refine⟨Y,Y,rfl,Y,cR (λc=>?_) (λc=>?_)⟩
  ·have c':p=q:=V.int.inj (of_decide_eq_true c);refine⟨Y,Y,r,Q,K,bG.of hr4,O3.ix,b',aC es,rfl,O4,gX O3.il (by decide),λo H5 I5 s5 ho=>?_⟩;refine k1 es o H5 O.he ?_ (mZ.trans (s3.trans (s4.trans s5))) (aR (mZ.trans (s3.trans s4)) ho);rw[kH _ e2,e1]at I5;unfold lS;rw[if_pos c'];exact I5
  ·have c':¬ p=q:=λz=>c (by rw[z];exact decide_eq_true rfl);have pq:p<q:=by have:=hp.2.1;lia
   have abV:∀ n,aS.win n∈aC es->∃ a2,cL kvs (Sum.inl n)=⇑↥a2/\bW H4 a2 (cF (sh n)):=λn hn=>by
    have nx:=sZ h0 O.he hn;let⟨i,hi⟩:=List.getElem?_of_mem Vt;let⟨a2,e2,R2⟩:=hv n (List.mem_of_mem_take (tp.dn i s hi n nx));exact⟨a2,e2,(R2.same s3).same s4⟩
   refine⟨Y,Y,r,Q,K,bG.of hr4,O3.ix,Y,Y,Y,b',S,p,q,aC es,kvs,sh,rfl,O4,s4 _ _ (s3 _ _ hS),abV,gX O3.il (by decide),gX O3.rl (by decide),λt L M H5 ht hL5 hM5 s5=>?_⟩
   have nn:Tw sh (aC es):=λn hn=>by
    have nx:=sZ h0 O.he hn;let⟨n0,n1⟩:=R.snd.Bp nx;exact oZ R.snd R.rk R.PJ n n0 n1
   have NR:=zD sh (aC es) 0 e2 nn;have lk:fR ((bU sh 0 (aC es)).flatMap (kD p q)):=v9 λd hd=>Vu (NR d hd).1 (NR d hd).2;have tk:fR ((bU sh 0 (aC es)).flatMap (tD p q)):=v9 λd hd=>abT (NR d hd).1 (NR d hd).2;have ll:=l5 sh (JF p q) (aC es) 0;have tl:=l5 sh (PR p q) (aC es) 0;have lr:=Df sh p q (aC es) 0;have oil:=O3.il;have orl:=O3.rl;exists t,Y,cW.of ht,rfl,E,rfl,Z;refine⟨Y,Y,Y,Y,L,S,M,to,E,kvs,sh,rfl,hL5,s5 _ _ (s4 _ _ (s3 _ _ hS)),(λn hn=>?_),hM5,lk,tk,(λn hn=>nn n (Gv sh hn)),by lia,by lia,by lia,λo H6 I6 s6 ho=>?_⟩
   ·let⟨a2,e3,R2⟩:=abV n (Gv sh hn);exact⟨a2,e3,R2.same s5⟩
   refine k1 es o H6 O.he ?_ (mZ.trans (s3.trans (s4.trans (s5.trans s6)))) (aR (mZ.trans (s3.trans (s4.trans s5))) ho);rw[D9 sh pq _ _ e2,Gs sh pq _ _ e2,e1]at I6;unfold lS;rw[if_neg c'];exact I6
class inductive TJ
 | mk (r:Addr) (rows:cJ) (s:Int) (sh:Int->List Int) (_:vs=[↥r,.int s]) (_:qg H r rows sh) (_:0<=s) (_:s<↑rows) (_ :
 ∀ (o:Addr) (H':Hp),bw H' ↥o (aC (sh s))->aI H H'->H o=none->Q ↥o H')
theorem BI:aF ["rows","sheet"] ["rows","sheet"] (az pN):=eO
theorem AH:‹(5,29,["rows","sheet"],TJ)›:=λD=>by
 refine eS D.aaN.F BI λcU A zn s0 H vs Q E hr h=>?_;let⟨r,rows,s,sh,rfl,R,h0,h1,k⟩:=h;exists _,(au (aJ (aH D.Gf (mR D) hr (aa (fO.vR D.Pg (D.T.rJ _ D.Pg.m) (Gp D) hr (aa (pv 0) (aa (pv 1) ah))) ah))));have shl:=R.bd s h0 h1;have rol:=j5 (sh s);refine⟨Y,Y,r,rows,s,sh,rfl,R.at_,R.len,R.ents,R.snd,R.rk,h0,h1,R.PJ,R.bd,λo H1 R1 s1 ho=>?_⟩;refine⟨o,cF (sh s),rfl,R1,by lia,λq H2 I2 s2 hq=>k q H2 ?_ (s1.trans s2) (aR s1 hq)⟩;rw[vK _ (jH _),dz,M0 (oZ R.snd R.rk R.PJ s h0 h1)]at I2;exact I2
abbrev fJ(ws:gW):HO:=.lst (ws.map λw=>V.str (eT w))
abbrev PX:List (Str × Int):=[(Str.ofString "fresh",0),(Str.ofString "cut",3),(Str.ofString "move",4),(Str.ofString "quote",5),(Str.ofString "window",3),(Str.ofString "fix",1),(Str.ofString "back",2),(Str.ofString "fork",2),(Str.ofString "untie",1),(Str.ofString "read",1)]
abbrev AHD:List (Str × Int):=[(Str.ofString "put",2),(Str.ofString "strike",0),(Str.ofString "blot",1),(Str.ofString "lift",1)]
def kK(D:List (Str × Int))(n:List Nat):Option Int:=(D.find? λp=>decide (eT n=p.1)).map (·.2)
def AI{D:List (Str × Int)}{n:List Nat}{i:Int}(h:kK D n=⇑i):(D.find? λp=>decide (eT n=p.1))=⇑(eT n,i):=by
 unfold kK at h;let⟨⟨x,j⟩,e,rfl⟩:=Option.map_eq_some_iff.mp h;have z:=List.find?_some e;have:eT n=x:=of_decide_eq_true z;rw[e,this]
abbrev lT:List Nat:=[116,105,101]
inductive jo where
 | BJ (h:Int) (t:List Nat)
 | Gx (a b:Row)
 | plain (n:List Nat) (ns:List Int)
 | ug (n:List Nat) (ns:List Int) (r:Row)
def jo.At(H:Hp)(p:Addr):jo->Prop
 | .BJ h t=>H p=⇑(.tup [.str "pour",.int h,.str (eT t)])
 | .Gx a b=>∃ q1 q2,H p=⇑(.tup [.str "tie",↥q1,↥q2])/\bW H q1 a/\bW H q2 b/\q1≠q2
 | .plain n ns=>H p=⇑(.tup (.str (eT n)::ns.map V.int))
 | .ug n ns r=>∃ q,H p=⇑(.tup (.str (eT n)::ns.map V.int++[↥q]))/\bW H q r
def rN(n:Int):Prop:=0<=n/\n<10^60
def JG(r:Row):Prop:=↑r<=29/\∀ p∈r,rN p.1/\rN p.2
def jo.Ok:jo->Prop
 | .BJ h t=>rN h/\↑t<=200
 | .Gx a b=>JG a/\JG b
 | .plain n ns=>kK PX n=⇑(↑ns:Int)/\∀ x∈ns,rN x
 | .ug n ns r=>kK AHD n=⇑(↑ns:Int)/\(∀ x∈ns,rN x)/\JG r
abbrev gi(p:Int × Int):List Nat:=gJ.dg p.1++45::gJ.dg p.2
def M7{p:Int × Int}(h:rN p.1/\rN p.2):↑(gi p)<=121:=by
 rw[cT,jS];have a:=gJ.Jl h.1.1 h.1.2;have b:=gJ.Jl h.2.1 h.2.2;lia
def Ec{n:Int}(h:rN n):n.natAbs.log2<1920:=by
 let⟨h0,h1⟩:=h;by_cases z:n.natAbs=0
 ·rw[z];decide
 ·rw[Nat.log2_lt z];have a:n.natAbs<10^60:=by lia
  exact qS a (gX (show (10:Nat)^60<=2^200 by decide) (Nat.pow_le_pow_right (by decide) (by decide)))
inductive iB where
 | num (x:Int)
 | tx (t:List Nat)
 | row (r:Row)
def iB.At(H:Hp)(v:V):iB->Prop
 | .num x=>v=.int x
 | .tx t=>v=.str (eT t)
 | .row r=>∃ q,v=↥q/\bW H q r
def iB.Ok:iB->Prop
 | .num x=>rN x
 | .tx t=>↑t<=200
 | .row r=>JG r
abbrev wg(r:Row):List Nat:=r.flatMap λp=>32::gi p
def iB.line:iB->List Nat
 | .num x=>32::gJ.dg x
 | .tx t=>32::t
 | .row r=>wg r
def AJ{r:Row}(h:JG r):↑(wg r)<=4000:=by
 have key:∀ l:Row,(∀ p∈l,rN p.1/\rN p.2)->↑(wg l)<=122*↑l:=by
  intro l
  induction l with
  | nil=>intro _;exact fK _
  | cons p l ih =>
   intro g;have z:=ih λq hq=>g q (nI _ hq);have z2:=M7 (g p wO);show ↑((32::gi p)++wg l)<=_;rw[cT,jS,jS];lia
 have:=key r h.2;have:=h.1;lia
def iB.Gy{p:iB}(h:p.Ok):↑p.line<=4000:=by
 cases p with
 | num x=>have:=gJ.Jl h.1 h.2;show ↑(32::gJ.dg x)<=_;rw[jS];lia
 | tx t=>have h':↑t<=200:=h;show ↑(32::t)<=_;rw[jS];lia
 | row r=>exact AJ h
def jo.nm:jo->List Nat
 | .BJ _ _=>[112,111,117,114]
 | .Gx _ _=>lT
 | .plain n _=>n
 | .ug n _ _=>n
def jo.parts:jo->List iB
 | .BJ h t=>[.num h,.tx t]
 | .Gx _ _=>[]
 | .plain _ ns=>ns.map .num
 | .ug _ ns r=>ns.map .num++[.row r]
def jo.line:jo->List Nat
 | .Gx a b=>lT++wg a++[32,47]++wg b
 | d=>d.nm++d.parts.flatMap iB.line
def PY{H:Hp}{p:Addr}{d:jo}(h:d.At H p)(nt:∀ a b,d≠.Gx a b):∃ vs,H p=⇑(.tup (.str (eT d.nm)::vs))/\cj (λv q=>iB.At H v q) vs d.parts:=by
 have nums:∀ ns:List Int,cj (λv q=>iB.At H v q) (ns.map V.int) (ns.map iB.num):=λns=>by
  induction ns with
  | nil=>exact .nil
  | cons x ns ih=>exact .cons rfl ih
 cases d with
 | BJ x t=>exact⟨_,by rw[h,show Str.ofString "pour"=eT [112,111,117,114] by decide +kernel];rfl,.cons rfl (.cons rfl .nil)⟩
 | Gx a b=>exact absurd rfl (nt a b)
 | plain n ns=>exact⟨_,h,nums ns⟩
 | ug n ns r =>
  let⟨q,e,z⟩:=h;exact⟨ns.map V.int++[↥q],by rw[e];rfl,(nums ns).snoc ⟨q,rfl,z⟩⟩
def M8{d:jo}(h:d.Ok):∀ q∈d.parts,q.Ok:=by
 cases d with
 | BJ x t =>
  intro q hq;rcases List.mem_cons.mp hq with z|z
  ·rw[z];exact h.1
  ·rw[List.mem_singleton.mp z];exact h.2
 | Gx a b=>intro q hq;cases hq
 | plain n ns =>
  intro q hq;let⟨x,hx,rfl⟩:=List.mem_map.mp hq;exact h.2 x hx
 | ug n ns r =>
  intro q hq;rcases List.mem_append.mp hq with z|z
  ·let⟨x,hx,rfl⟩:=List.mem_map.mp z;exact h.2.1 x hx
  ·rw[List.mem_singleton.mp z];exact h.2.2
theorem Gz{H:Hp}:∀ {vs:List V} {ps:List iB} {i:Nat} {v:V},cj (λv q=>iB.At H v q) vs ps->vs[i]?=⇑v->∃ q,ps[i]?=⇑q/\q.At H v
 | _,_,_,_,.nil,h=>by simp at h
 | _,_,0,_,.cons o t,h=>by
  have e:=oB h;subst e;exact⟨Y,o⟩
 | _,_,i+1,_,.cons o t,h=>by
  let⟨q,e,z⟩:=Gz (i:=i) t (by simpa using h);exact⟨q,by simpa using e,z⟩
def Dg{ps:List iB}(h:∀ q∈ps,q.Ok):↑(ps.flatMap iB.line)<=4000*↑ps:=by
 induction ps with
 | nil=>exact Nat.zero_le _
 | cons p ps ih =>
  have z:=ih λq hq=>h q (nI _ hq);have z2:=iB.Gy (h p wO);rw[iT,cT,jS,Nat.mul_add,Nat.mul_one];lia
def Lr(n:List Nat):∀ ws:gW,gJ.jn 32 (n::ws)=n++ws.flatMap (λw=>32::w):=by
 intro ws
 induction ws generalizing n with
 | nil=>show n=_;simp
 | cons w ws ih =>
  show n++32::gJ.jn 32 (w::ws)=_;rw[ih w,iT];simp
def GA{D:List (Str × Int)}{n:List Nat}{k:Int}(hD:∀ p∈D,32∉p.1.cps.toList/\p.1.cps.toList≠[112,111,117,114]/\p.1.cps.toList≠lT/\↑p.1.cps.toList<=10)(h:kK D n=⇑k):32∉n/\n≠[112,111,117,114]/\n≠lT/\↑n<=10:=by
 have z:=hD _ (List.mem_of_find?_eq_some (AI h));have e:(eT n).cps.toList=n:=gJ.sU n;rw[show ((eT n,k):Str × Int).1=eT n from rfl,e]at z;exact z
theorem PZ{n:List Nat}{k:Int}(h:kK PX n=⇑k):32∉n/\n≠[112,111,117,114]/\n≠lT/\↑n<=10:=GA nofun h
theorem P0{n:List Nat}{k:Int}(h:kK AHD n=⇑k):32∉n/\n≠[112,111,117,114]/\n≠lT/\↑n<=10:=GA nofun h
def rO(r:Row):wg r=(r.map gi).flatMap λw=>32::w:=by
 induction r with
 | nil=>rfl
 | cons x r ih=>rw[jy,iT,← ih];rfl
def jo.At.same{H H':Hp}{p:Addr}{d:jo}(h:d.At H p)(s:aI H H'):d.At H' p:=by
 cases d with
 | BJ x t=>exact s _ _ h
 | Gx a b=>let⟨q1,q2,e,r1,r2,n⟩:=h;exact⟨q1,q2,s _ _ e,r1.same s,r2.same s,n⟩
 | plain n ns=>exact s _ _ h
 | ug n ns r=>let⟨q,e,r1⟩:=h;exact⟨q,s _ _ e,r1.same s⟩
def M9{n:List Nat}{k:Int}(h:kK PX n=⇑k):k<=5:=by
 have z:∀ p∈PX,p.2<=5:=by decide +kernel
 exact z _ (List.mem_of_find?_eq_some (AI h))
def Na{n:List Nat}{k:Int}(h:kK AHD n=⇑k):k<=5:=by
 have z:∀ p∈AHD,p.2<=5:=by decide +kernel
 exact z _ (List.mem_of_find?_eq_some (AI h))
def JH{d:jo}(ok:d.Ok):(∀ a b,d≠.Gx a b)->d.nm≠lT/\↑d.nm<=10/\↑d.parts<=10:=by
 intro nt
 cases d with
 | BJ x t=>exact⟨by show [112,111,117,114]≠lT;decide,by show 4<=10;decide,by show 2<=10;decide⟩
 | Gx a b=>exact absurd rfl (nt a b)
 | plain n ns =>
  let⟨_,_,f3,f4⟩:=PZ ok.1;have:=M9 ok.1;exact⟨f3,f4,by show ↑(ns.map iB.num)<=10;rw[cB];lia⟩
 | ug n ns r =>
  let⟨_,_,f3,f4⟩:=P0 ok.1;have:=Na ok.1;exact⟨f3,f4,by show ↑(ns.map iB.num++[iB.row r])<=10;rw[cT,cB];show ↑ns+1<=10;lia⟩
class inductive AK
 | mk (q:Addr) (r:Row) (_:vs=[↥q]) (_:bW H q r) (_:JG r) (_: ∀ (a:Addr) (H':Hp),H' a=⇑(fJ (r.map gi))->aI H H'->H a=none->Q ↥a H')
theorem GB:aF ["row"] ["row"] (az pO):=eO
def P1{a b:Int}(ha:0<=a)(hb:0<=b):(Str.empty++Str.ofString (toString a)++Str.ofString "-"++Str.ofString (toString b))=eT (gi (a,b)):=by
 rw[gJ.zy ha,gJ.zy hb,show Str.ofString "-"=eT [45] by decide +kernel,show Str.empty=eT [] from rfl,DT,DT,DT];simp
theorem Ed:‹(1,30,["row"],AK)›:=λD=>by
 specialize eS D.SY.F GB;let⟨q,r,rfl,⟨as,hq,pa⟩,⟨lr,fr⟩,k⟩:=h;refine⟨_,(au (aJ (gI (N:=["start","stop"]) (jI (sc:=az pO) (NX:=["row"]) (jx:=[none,none]) rfl rfl rfl nofun nofun rfl nofun rfl nofun) rfl (cu (pv 0)) (λ_ _ _ _ _ _=>(sR (n:=2) rfl (bP (bQ (i:=0) (show List.Nodup (["start","stop"]:List Str) by decide +kernel)) (bP (bQ (i:=1) (show List.Nodup (["start","stop"]:List Str) by decide +kernel)) fX)))) (λ_ _ _ _ _ _=>fZ) (λ_ _ _ _ _ _=>(gJ.Pa (gJ.Li (pv 0) (gJ.SQ (gJ.Li (pv 1) gJ.SO)))))))),?_⟩;have lp:=Paired.length pa;refine⟨Y,q,rfl,⟨_,bG.of hq⟩,λacc cP=>fE (K:=K) (a:=q) (xs:=as.map V.ref) (λi σ H2=>∃ u0 u1:Option V,σ=[u0,u1]/\H2 acc=⇑(fJ ((r.take i).map gi))/\aI H H2) ⟨none,none,rfl,af,ak cP _⟩ (by rintro i σ H2 _ ⟨_,_,_,_,s2⟩;exact bG.of (s2 _ _ hq)) ?_ ?_⟩
 ·rintro i y σ H2 hi ⟨u0,u1,rfl,h2,s2⟩;rw[mY]at hi;let⟨a,ei,rfl⟩:=Option.map_eq_some_iff.mp hi;let⟨p,ep,hp⟩:=pa.get ei;have fp:=fr p (nJ ep);have il:=(List.getElem?_eq_some_iff.mp ep).1;exists a,Y,cW.of (s2 _ _ hp),rfl,E,rfl,Z;refine⟨Y,Y,Ec fp.1,Y,Y,Ec fp.2,_,h2,aQ (by rw[cB,cB,gr];lia),E,rfl,?_,bH cP s2 (aG acc _ _)⟩;rw[af,take_snoc ep,gE,jy,List.map_nil,P1 fp.1.1 fp.2.1];show some (HO.lst _)=⇑(HO.lst _);rw[gE];rfl
 ·rintro σ H2 ⟨u0,u1,rfl,h2,s2⟩;rw[cB,lp,gH]at h2;exact k acc H2 h2 s2 cP
def iB.words:iB->gW
 | .num x=>[gJ.dg x]
 | .tx t=>[t]
 | .row r=>r.map gi
def vc(ps:List iB):(ps.flatMap iB.words).flatMap (λw=>32::w)=ps.flatMap iB.line:=by
 induction ps with
 | nil=>rfl
 | cons p ps ih =>
  rw[iT,iT,yQ,ih];congr 1
  cases p with
  | num x=>show (32::gJ.dg x)++[]=32::gJ.dg x;rw[fV]
  | tx t=>show (32::t)++[]=32::t;rw[fV]
  | row r=>exact (rO r).symm
class inductive P4
 | mk (p:Addr) (d:jo) (_:vs=[↥p]) (_:d.At H p) (_:d.Ok) (_:((∀ a b,d≠.Gx a b)->d.nm≠lT/\↑d.nm<=10/\↑d.parts<=10)) (_: ∀ H',aI H H'->Q (.str (eT d.line)) H')
theorem lU:aF ["deed","words","thing"] ["deed"] (az qZ):=eO
def AL(W:gW):(W.map List.length).sum+↑W=↑(W.flatMap λw=>32::w):=by
 induction W with
 | nil=>rfl
 | cons x W ih =>
  rw[jy,List.sum_cons,jS,iT,cT,jS,← ih];lia
theorem tw(a b:gW):(a.map λw=>V.str (eT w))++(b.map λw=>V.str (eT w))=(a++b).map λw=>V.str (eT w):=List.map_append.symm
theorem BK:‹(2,31,["deed"],P4)›:=λD=>by
 have vd:bq P w K mg zt cO 1 _ _ ["row"] AK:=Ed D;specialize eS D.aaO.F lU;let⟨p,d,rfl,hd,ok,nn,k⟩:=h;exists _,(aj (bO (aV dY (aO aW (pv 0) ay) bI (bh _)) (au (aJ (dQ PySem.F.plainAttrs_str PySem.F.slot_str_join PySem.F.type_str_join gJ.F6 bI (aa (bz jC (bz jC (bz jC (bL (aa bI ah)) (aH D.SY vd hr (aa (aO aW (pv 0) ay) ah))) (bL (aa bI ah))) (aH D.SY vd hr (aa (aO aW (pv 0) ay) ah))) ah)))) br) (aj (aZ (i:=1) lU.nd (bL (aa (aO aW (pv 0) ay) ah))) (aj (dX PassesOwn.never rfl (Wi (gZ Wv (pv 0) (iG ay) lO)) (bQ (i:=2) lU.nd) (au (ux (i:=1) lU.nd rfl (Or.inl rfl) (Fl (jz (bY dR rfl D.T.dG yO (aa (pv 2) (aa (qv rfl D.T.iR tL) ah)))) (aH D.SY vd hr (aa (pv 2) ah)) (bL (aa (F8.aav (pv 2)) ah))) xM))) (au (aJ (dQ PySem.F.plainAttrs_str PySem.F.slot_str_join PySem.F.type_str_join gJ.F6 bI (aa (pv 1) ah)))))));have tt:Str.ofString "tie"=eT lT:=by decide +kernel
 have kil:kitOne K (.type "int") (.type "list")=⇑false:=by kernel_rfl
 have ksl:kitOne K (.type "str") (.type "list")=⇑false:=by kernel_rfl
 by_cases ht:∃ a b,d=.Gx a b
 ·let⟨a,b,rfl⟩:=ht;let⟨q1,q2,hp,r1,r2,_⟩:=hd;have la:=AJ ok.1;have lb:=AJ ok.2;have ea:↑(a.map gi)=↑a:=cB _;have eb:↑(b.map gi)=↑b:=cB _;have a29:=ok.1.1;have b29:=ok.2.1;exists Y,p,Q,K,cW.of hp,om;refine⟨rfl,Y,cR (λ_=>?_) (λc=>absurd (decide_eq_true rfl) c)⟩;refine⟨rfl,ku,λt1 f1=>?_⟩;have s1:=ak f1 (.lst [.str "tie"]);have h1:(aN H t1 (.lst [.str "tie"])) t1=⇑(fJ [lT]):=by rw[tt];exact af
  generalize aN H t1 (.lst [.str "tie"])=H1 at s1 h1;refine⟨Y,p,Q,K,cW.of (s1 _ _ hp),rH,q1,a,rfl,r1.same s1,ok.1,λw1 H2 hw1 s2 fw1=>?_⟩;refine⟨t1,w1,Z,s2 _ _ h1,hw1,gG (aQ (by simp only[cB,jS,lM];lia)),λt2 f2=>?_⟩;rw[tw];have s3:=ak f2 (fJ ([lT]++a.map gi));have h3:(aN H2 t2 (fJ ([lT]++a.map gi))) t2=⇑(fJ ([lT]++a.map gi)):=af;generalize aN H2 t2 (fJ ([lT]++a.map gi))=H3 at s3 h3;refine⟨ku,λt3 f3=>?_⟩;have s4:=ak f3 (.lst [.str "/"]);have h4:(aN H3 t3 (.lst [.str "/"])) t3=⇑(fJ [[47]]):=by rw[show Str.ofString "/"=eT [47] by decide +kernel];exact af
  generalize aN H3 t3 (.lst [.str "/"])=H4 at s4 h4;refine⟨t2,t3,Z,s4 _ _ h3,h4,gG (aQ (by simp only[cB,cT,jS,lM];lia)),λt4 f4=>?_⟩;rw[tw];have s5:=ak f4 (fJ ([lT]++a.map gi++[[47]]));have h5:(aN H4 t4 (fJ ([lT]++a.map gi++[[47]]))) t4=⇑(fJ ([lT]++a.map gi++[[47]])):=af;generalize aN H4 t4 (fJ ([lT]++a.map gi++[[47]]))=H5 at s5 h5;have JI:aI H H5:=s1.trans (s2.trans (s3.trans (s4.trans s5)));refine⟨Y,p,Q,K,cW.of (JI _ _ hp),Aw,q2,b,rfl,r2.same JI,ok.2,λw2 H6 hw2 s6 fw2=>?_⟩;refine⟨t4,w2,Z,s6 _ _ h5,hw2,gG (aQ (by simp only[cB,cT,jS,lM];lia)),λt5 f5=>?_⟩;rw[tw];have s7:=ak f5 (fJ ([lT]++a.map gi++[[47]]++b.map gi));have e5:[lT]++a.map gi++[[47]]++b.map gi=lT::(a.map gi++[47]::b.map gi):=by simp
  have el:gJ.jn 32 (lT::(a.map gi++[47]::b.map gi))=(jo.Gx a b).line:=by
   rw[Lr,yQ,iT,← rO,← rO];show _=lT++wg a++[32,47]++wg b;simp
  have fs:=AL (a.map gi++[47]::b.map gi);rw[yQ,iT,← rO,← rO]at fs;simp only[cT,jS,lM]at fs;exists t5,32,_,by rw[show Str.ofString " "=⟨#[32]⟩ by decide +kernel],rfl,af,?_
  ·rw[e5,jy,List.sum_cons,jS];simp only[cT,jS,lM];lia
  rw[e5]at s7 ⊢;rw[el];exact k _ (JI.trans (s6.trans s7))
 have nt:∀ a b,d≠.Gx a b:=λa b e=>ht ⟨a,b,e⟩;let⟨vs,hp,al⟩:=PY hd nt;let⟨n1,n2,n3⟩:=nn nt;have pk:=M8 ok;have lv:=al.len
 have ln:d.line=d.nm++d.parts.flatMap iB.line:=by
  cases d with
  | Gx a b=>exact absurd rfl (nt a b)
  | _=>rfl
 exists Y,p,Q,K,cW.of hp,om;refine⟨rfl,Y,cR (λc=>absurd (of_decide_eq_true c) (by rw[tt];intro z;exact n1 (SN (V.str.inj z)))) (λ_=>?_)⟩;refine⟨Y,p,Q,K,cW.of hp,om,ku,λwl fwl=>?_⟩;have s0:=ak fwl (.lst [.str (eT d.nm)]);have h0:(aN H wl (.lst [.str (eT d.nm)])) wl=⇑(fJ [d.nm]):=af;refine⟨Y,Y,p,Y,cW.of (s0 _ _ hp),?_,λtp htp=>?_⟩
 ·rintro⟨z,_⟩;have e:HT.gC ↑(V.str (eT d.nm)::vs) 0 (some 1)=min 1 ↑(V.str (eT d.nm)::vs):=HT.KJ _ _ 1;have z':HT.gC ↑(V.str (eT d.nm)::vs) 0 (some 1)=0:=z;rw[e,jS]at z';lia
 have ec:ki (V.str (eT d.nm)::vs) (some 1) none=vs:=by
  unfold ki;have e:HT.gC ↑(V.str (eT d.nm)::vs) 0 (some 1)=1:=(HT.KJ _ _ 1).trans (by rw[jS];lia);have e2:HT.gC ↑(V.str (eT d.nm)::vs) ↑(V.str (eT d.nm)::vs) none=↑vs+1:=rfl;rw[e,e2];show vs.take (↑vs+1-1)=vs;exact uv ∅
 rw[ec];change (aN H wl (.lst [.str (eT d.nm)])) tp=none at htp;have s1':=ak htp (.tup vs);have h1:(aN (aN H wl (.lst [.str (eT d.nm)])) tp (.tup vs)) tp=⇑(.tup vs):=af;have h1w:=s1' _ _ h0;have s1:=s0.trans s1';have nwt:wl≠tp:=aA h0 htp;generalize aN (aN H wl (.lst [.str (eT d.nm)])) tp (.tup vs)=H1 at s1 h1 h1w;refine⟨tp,rfl,⟨_,cW.of h1⟩,RJ (K:=K) (a:=tp) (xs:=vs) (λi σ H2=>∃ u:Option V,σ=[⇑↥p,⇑↥wl,u]/\H2 wl=⇑(fJ (d.nm::(d.parts.take i).flatMap iB.words))/\H2 tp=⇑(.tup vs)/\aI H H2) ⟨none,rfl,by rw[List.take_zero,List.flatMap_nil];exact h1w,h1,s1⟩ (by rintro i σ H2 _ ⟨_,_,_,h2,_⟩;exact cW.of h2) ?_ ?_⟩
 ·rintro i v σ H2 hi ⟨u,rfl,h2,h2t,s2⟩;let⟨q,eq,hq⟩:=Gz al hi;have qk:=pk q (nJ eq);have ql:=iB.Gy qk;have fl:=Dg (ps:=d.parts.take i) λq hq=>pk q (List.mem_of_mem_take hq);have ft:↑(d.parts.take i)<=10:=by rw[gr];lia
  have fs:=AL ((d.parts.take i).flatMap iB.words);rw[vc]at fs
  have nx:d.nm::(d.parts.take (i+1)).flatMap iB.words=(d.nm::(d.parts.take i).flatMap iB.words)++q.words:=by
   rw[take_snoc eq,yQ,iT,List.flatMap_nil,fV,List.cons_append]
  have lB:↑(d.nm::(d.parts.take i).flatMap iB.words)<=50000:=by rw[jS];lia
  have lq:↑q.words<=29:=by
   cases q with
   | num x=>show 1<=29;decide
   | tx t=>show 1<=29;decide
   | row r=>show ↑(r.map gi)<=29;rw[cB];exact qk.1
  have iS:∀ (t:Addr) (H3:Hp) (v':V),aI H2 H3->H2 t=none->H3 t=⇑(fJ q.words)->∃ (l b:Addr) (xs zs:List V),V.ref wl=↥l/\V.ref t=↥b/\H3 l=⇑(.lst xs)/\H3 b=⇑(.lst zs)/\↑xs+↑zs<=sizeLine/\∃ u:Option V,([⇑↥p,⇑↥wl,⇑v']:List (Option V)).set 1 (⇑↥l)=[⇑↥p,⇑↥wl,u]/\(aN H3 l (.lst (xs++zs))) wl=⇑(fJ (d.nm::(d.parts.take (i+1)).flatMap iB.words))/\(aN H3 l (.lst (xs++zs))) tp=⇑(.tup vs)/\aI H (aN H3 l (.lst (xs++zs))):=by
   intro t H3 v' s3 Ld h3;exists wl,t,Z,s3 _ _ h2,h3,gG (aQ (by rw[cB,cB];lia)),Y,?_,?_
   ·rw[tw,af,nx]
   ·rw[aL nwt.symm];exact s3 _ _ h2t
   ·exact bH fwl (s2.trans s3) (aG wl _ _)
  cases q with
  | num x =>
   cases (show v=.int x from hq);refine⟨Y,Y,_,"list",E,rfl,.int x,kil,Y,eL ⟨Y,.inl ⟨x,rfl,Ec qk,?_⟩⟩⟩;rw[gJ.zy qk.1];exact⟨ku,λt Ld=>iS t _ (.int x) (ak Ld _) Ld af⟩
  | tx t =>
   cases (show v=.str (eT t) from hq);have lt:↑t<=200:=qk;refine⟨Y,Y,_,"list",E,rfl,.str _,ksl,Y,eL ⟨Y,.inr ⟨t,rfl,by lia,?_⟩⟩⟩;exact⟨ku,λt' Ld=>iS t' _ (.str (eT t)) (ak Ld _) Ld af⟩
  | row r =>
   let⟨qa,rfl,hr⟩:=hq;have Ju:=hr.same s2;let⟨as,has,_⟩:=id Ju;refine⟨Y,Y,_,"list",E,rfl,.lst has,aah K,Y,iX ?_⟩;exact⟨Y,qa,r,rfl,Ju,qk,λt H3 h3 s3 Ld=>iS t H3 ↥qa s3 Ld h3⟩
 ·rintro σ H2 ⟨u,rfl,h2,h2t,s2⟩;rw[lv,gH]at h2;have fs:=AL (d.parts.flatMap iB.words);rw[vc]at fs;have fl:=Dg (ps:=d.parts) pk;exists rfl,Y,wl,32,_,by rw[show Str.ofString " "=⟨#[32]⟩ by decide +kernel],rfl,h2,?_
  ·rw[jy,List.sum_cons,jS];lia
  rw[Lr,vc,← ln];exact k H2 s2
structure abX(S:Addr->Prop)(H:Hp)(st op r:Addr)(aP:List aS):Prop where
 own:S r
 ne:r≠st/\r≠op
 at':bw H ↥r aP
def JJ(S:Addr->Prop)(H:Hp)(st op a:Addr)(rows:List (List aS)):Prop:=S a/\a≠st/\a≠op/\∃ rs:List Addr,H a=⇑(.lst (rs.map V.ref))/\cj (abX S H st op) rs rows
abbrev lC:=List (List (List aS))
structure Opn(bN:lC)(ops:List Int):Prop where
 Dh:∃ last,bN.getLast?=⇑last/\↑ops=↑last
 fit:∀ (s:Nat) (o:Int),ops[s]?=⇑o->0<=o/\o<↑bN/\∀ (m:Nat) (rows:List (List aS)),bN[m]?=⇑rows->(o<=m↔s<↑rows)
 less:∀ (m:Nat) (rows:List (List aS)),bN[m]?=⇑rows->↑rows<=↑ops
structure Sh(C:Addr)(S:Addr->Prop)(H:Hp)(x d st op:Addr)(bN:lC)(ops:List Int):Prop where
 sx:S x
 ss:S st
 so:S op
 al:∀ a,S a->∃ ob,H a=⇑ob
 hx:H x=⇑(.ins C d [("states",↥st),("openings",↥op)])
 hs:∃ as:List Addr,H st=⇑(.lst (as.map V.ref))/\cj (JJ S H st op) as bN
 ho:H op=⇑(.lst (ops.map V.int))
 ne:st≠op
 Rn:Opn bN ops
def bw.fr{H H':Hp}{r:Addr}{aP:List aS}(h:bw H ↥r aP)(k:∀ xs,H r=⇑(.lst xs)->H' r=⇑(.lst xs))(t:∀ a xs,H a=⇑(.tup xs)->H' a=⇑(.tup xs)):bw H' ↥r aP:=by
 let⟨a,vs,e,h1,h2⟩:=h;cases e;exact⟨r,vs,rfl,k _ h1,h2.mono λv it ⟨b,e,hb⟩=>⟨b,e,t _ _ hb⟩⟩
def JJ.fr{S S':Addr->Prop}{H H':Hp}{st a:Addr}{rows:List (List aS)}(h:JJ S H st op a rows)(sub:∀ a,S a->S' a)(k:∀ a ob,H a=⇑ob->S a->a≠st->a≠op->H' a=⇑ob)(t:∀ a xs,H a=⇑(.tup xs)->H' a=⇑(.tup xs)):JJ S' H' st op a rows:=by
 let⟨sa,n1,n2,rs,hr,al⟩:=h;exact⟨sub _ sa,n1,n2,rs,k _ _ hr sa n1 n2,al.mono λr aP q=>⟨sub _ q.own,q.ne,q.at'.fr (λxs e=>k _ _ e q.own q.ne.1 q.ne.2) t⟩⟩
def Sh.fr{S:Addr->Prop}{H H':Hp}{x d st:Addr}{bN:lC}{ops:List Int}(h:Sh C S H x d st op bN ops)(k:∀ a ob,H a=⇑ob->S a->H' a=⇑ob)(t:∀ a xs,H a=⇑(.tup xs)->H' a=⇑(.tup xs)):Sh C S H' x d st op bN ops:=by
 let⟨sx,ss,so,al,hx,⟨as,hs,a2⟩,ho,ne,Rn⟩:=h;refine⟨sx,ss,so,λa z=>?_,k _ _ hx sx,⟨as,k _ _ hs ss,a2.mono λa rows q=>q.fr (λ_ z=>z) (λa ob e z _ _=>k _ _ e z) t⟩,k _ _ ho so,ne,Rn⟩;let⟨ob,e⟩:=al a z;exact⟨ob,k _ _ e z⟩
theorem Sh.same{S:Addr->Prop}{H H':Hp}{x d st:Addr}{bN:lC}{ops:List Int}(h:Sh C S H x d st op bN ops)(k:aI H H'):Sh C S H' x d st op bN ops:=h.fr (λa ob e _=>k a ob e) (λa xs e=>k _ _ e)
theorem Sh.keep{S:Addr->Prop}{H H':Hp}{x d st:Addr}{bN:lC}{ops:List Int}{ls:List V}(h:Sh C S H x d st op bN ops)(hl:H l=⇑(.lst ls))(nl:¬ S l)(k:cz l H H'):Sh C S H' x d st op bN ops :=
 h.fr (λa ob e z=>k a ob e (λq=>nl (by rw[← q];exact z))) (λa xs e=>k _ _ e (cK e hl))
theorem AM:∀ {as bs:List Addr},as.map V.ref=bs.map V.ref->as=bs
 | [],[],_=>rfl
 | [],_::_,h=>by cases h
 | _::_,[],h=>by cases h
 | a::as,b::bs,h=>by
  rw[jy,jy]at h;injection h with h1 h2;cases h1;rw[AM h2]
def Sh.last{S:Addr->Prop}{H:Hp}{x d st:Addr}{bN:lC}{ops:List Int}(h:Sh C S H x d st op bN ops){as:List Addr}(ha:H st=⇑(.lst (as.map V.ref))):∃ O1 a,as=O1++[a]/\∀ last,bN.getLast?=⇑last->JJ S H st op a last:=by
 let⟨bs,hb,a2⟩:=h.hs
 have e:as=bs:=by
  rw[ha]at hb;have:=HO.lst.inj (oB hb);exact AM this
 subst e;let⟨last,hl,_⟩:=h.Rn.Dh
 obtain⟨p',rfl⟩:∃ p',bN=p'++[last]:=by
  rcases qG bN with rfl|⟨p',l,rfl⟩
  ·cases hl
  ·rw[nK,tN]at hl;cases hl;exact⟨p',nK⟩
 let⟨O1,a,rfl,_,r⟩:=a2.split;refine⟨O1,a,rfl,λl e=>?_⟩;rw[hl]at e;cases e;exact r
def ve(xs:List V){p:Int}(h:0<=p):ki xs none (⇑p)=xs.take p.toNat:=by
 unfold ki;have e1:HT.gC ↑xs 0 none=0:=rfl
 have e2:HT.gC ↑xs ↑xs (⇑p)=min p.toNat ↑xs:=by
  show (if p<0 then (p+(↑xs:Int)).toNat else min p.toNat ↑xs)=_;rw[if_neg ∅]
 rw[e1,e2,List.drop_zero,Nat.sub_zero];rcases Nat.le_total p.toNat ↑xs with z|z
 ·rw[Nat.min_eq_left z]
 ·rw[Nat.min_eq_right z,uv (fK _),uv z]
def xV(xs:List V){p:Int}(h:0<=p):ki xs (⇑p) none=xs.drop p.toNat:=by
 unfold ki;have e1:HT.gC ↑xs ↑xs none=↑xs:=rfl
 have e2:HT.gC ↑xs 0 (⇑p)=min p.toNat ↑xs:=by
  show (if p<0 then (p+(↑xs:Int)).toNat else min p.toNat ↑xs)=_;rw[if_neg ∅]
 rw[e1,e2];rcases Nat.le_total p.toNat ↑xs with z|z
 ·rw[Nat.min_eq_left z,uv (by rw[qH];lia)]
 ·rw[Nat.min_eq_right z,zF (fK _),zF z];simp
class inductive Nb
 | mk (a r:Addr) (rs:List V) (s:Nat) (_:vs=[↥a,.int (s:Nat),↥r]) (_:H a=⇑(.lst rs)) (_:s<=↑rs) (_:↑rs<=1000) (_: ∀ (p:Addr) (H':Hp),H' p=⇑(.lst (rs.take s++[↥r]++rs.drop (s+1)))->aI H H'->H p=none->Q ↥p H')
class inductive TL(C:Addr)
 | mk (x d:Addr) (_:vs=[↥x]) (_:H x=⇑(.ins C d [])) (_: ∀ (st op z:Addr) (H':Hp),Sh C (λa=>a=x\/a=st\/a=op\/a=z) H' x d st op [[]] []->cz x H H'->H st=none->H op=none->H z=none->Q .fT H')
class inductive abY(C:Addr)
 | mk (x d st op:Addr) (as:List V) (_:vs=[↥x]) (_:H x=⇑(.ins C d [("states",↥st),("openings",↥op)])) (_:H st=⇑(.lst as)) (_:Q (.int ((↑as:Nat)-1)) H)
class inductive XZ(C:Addr)
 | mk (S:Addr->Prop) (x d st op:Addr) (bN:lC) (ops:List Int) (_:vs=[↥x]) (_:Sh C S H x d st op bN ops) (_:Q (.int (↑ops:Nat)) H)
theorem Nc:aF ["state","sheet","items"] ["state","sheet","items"] (az zW):=eO
theorem xW:aF ["self"] ["self"] (az kU):=eO
theorem GC:aF ["self"] ["self"] (az uH):=eO
theorem Ef:aF ["self"] ["self"] (az rf):=eO
theorem AN:‹(1,32,["state","sheet","items"],Nb)›:=λD=>by
 specialize eS D.Xr.F Nc;let⟨a,r,rs,s,rfl,ha,sl,l1,k⟩:=h;exists _,(aj (bO (jd (qW fY fY ay (pv 1) (gp D.T.gg (pv 0)))) (au iV) br) (au (aJ (bz jC (bz jC (gZ lP (pv 0) lO (iG (pv 1))) (bL (aa (pv 2) ah))) (gZ lP (pv 0) (iG (bz dH (pv 1) ay)) lO)))));refine⟨Y,Z,Y,cR (λc0=>?_) (λc0=>absurd (decide_eq_true ∅) c0)⟩;exists Y,a,Y,.inl (bG.of ha),Z,Y;rw[decide_eq_true (show ((s:Nat):Int)<=((↑rs:Nat):Int) by lia)];refine eL ?_;refine⟨Y,Y,Y,a,Y,bG.of ha,λp1 YX=>?_⟩;rw[ve _ ∅,Int.toNat_natCast];have s1:aI H (aN H p1 (.lst (rs.take s))):=ak YX _;have h1:(aN H p1 (.lst (rs.take s))) p1=⇑(.lst (rs.take s)):=af;generalize aN H p1 (.lst (rs.take s))=H1 at s1 h1;refine⟨Y,ku,λp2 U0=>?_⟩;have s2:aI H1 (aN H1 p2 (.lst [↥r])):=ak U0 _;have h2:(aN H1 p2 (.lst [↥r])) p2=⇑(.lst [↥r]):=af;generalize aN H1 p2 (.lst [↥r])=H2 at s2 h2;refine⟨p1,p2,Z,s2 _ _ h1,h2,(by rw[gr];exact gG (aQ (by simp only[gV];lia))),λp3 hp3=>?_⟩;have s3:aI H2 (aN H2 p3 (.lst (rs.take s++[↥r]))):=ak hp3 _;have h3:(aN H2 p3 (.lst (rs.take s++[↥r]))) p3=⇑(.lst (rs.take s++[↥r])):=af;generalize aN H2 p3 (.lst (rs.take s++[↥r]))=H3 at s3 h3;have P5:=s1.trans (s2.trans s3);refine⟨Y,Y,Z,Y,a,Y,bG.of (P5 _ _ ha),λp4 hp4=>?_⟩;rw[xV _ ∅,show (((s:Nat):Int)+1).toNat=s+1 by lia];have s4:aI H3 (aN H3 p4 (.lst (rs.drop (s+1)))):=ak hp4 _;have h4:(aN H3 p4 (.lst (rs.drop (s+1)))) p4=⇑(.lst (rs.drop (s+1))):=af;generalize aN H3 p4 (.lst (rs.drop (s+1)))=H4 at s4 h4;refine⟨p3,p4,Z,s4 _ _ h3,h4,(by rw[cT,gr,qH];exact gG (aQ (by simp only[gV];lia))),λp5 hp5=>?_⟩;have s04:=P5.trans s4;exact k p5 _ af (s04.trans (ak hp5 _)) (aR s04 hp5)
theorem wj:‹(1,33,["self"],(TL CS))›:=λD=>by
 specialize eS D.aaP.F xW;let⟨x,d,rfl,hx,k⟩:=h;exists _,(aj (je (pv 0) (bL (aa (bL ah) ah)) rfl) (au (je (pv 0) (bL ah) rfl)));refine⟨gQ,λz hz=>?_⟩;have a0:aI H (aN H z (.lst [])):=ak hz _;have z0:(aN H z (.lst [])) z=⇑(.lst []):=af;generalize aN H z (.lst [])=H0 at a0 z0;refine⟨ku,λst Dz=>?_⟩;have a1:aI H0 (aN H0 st (.lst [↥z])):=ak Dz _;have b1:(aN H0 st (.lst [↥z])) st=⇑(.lst [↥z]):=af;generalize aN H0 st (.lst [↥z])=H1 at a1 b1;have a01:=a0.trans a1;refine⟨Y,x,CS,d,Y,a01 _ _ hx,D.cN.cl,D.j7,by decide,?_⟩;have k2:cz x H1 (aN H1 x (.ins CS d (L2.dZ "states" ↥st []))):=aG x _ _;have h2:(aN H1 x (.ins CS d (L2.dZ "states" ↥st []))) x=⇑(.ins CS d [("states",↥st)]):=af;generalize aN H1 x (.ins CS d (L2.dZ "states" ↥st []))=H2 at k2 h2;have X0:st≠x:=(aA (a0 _ _ hx) Dz).symm;have nzx:z≠x:=(aA hx hz).symm;have nzs:z≠st:=aA z0 Dz;have b2:=k2 _ _ b1 X0;have z2:=k2 _ _ (a1 _ _ z0) nzx;refine⟨gQ,λop Rh=>?_⟩;have LP:op≠x:=(aA h2 Rh).symm;have nso:st≠op:=aA b2 Rh;have nzo:z≠op:=aA z2 Rh;refine⟨Y,x,CS,d,Y,ak Rh _ _ _ h2,D.cN.cl,D.oN,(by show 1<1000;decide),?_⟩
 have k5:cz x H (aN (aN H2 op (.lst [])) x (.ins CS d (L2.dZ "openings" ↥op [("states",↥st)]))):=λa ob e n=>by
  rw[aL n];exact ak Rh _ _ _ (k2 _ _ (a01 _ _ e) n)
 have z5:(aN (aN H2 op (.lst [])) x (.ins CS d (L2.dZ "openings" ↥op [("states",↥st)]))) z=⇑(.lst []):=by rw[aL nzx];exact ak Rh _ _ _ z2
 have s5:(aN (aN H2 op (.lst [])) x (.ins CS d (L2.dZ "openings" ↥op [("states",↥st)]))) st=⇑(.lst [↥z]):=by rw[aL X0];exact ak Rh _ _ _ b2
 have o5:(aN (aN H2 op (.lst [])) x (.ins CS d (L2.dZ "openings" ↥op [("states",↥st)]))) op=⇑(.lst []):=by rw[aL LP];exact af
 have x5:(aN (aN H2 op (.lst [])) x (.ins CS d (L2.dZ "openings" ↥op [("states",↥st)]))) x=⇑(.ins CS d [("states",↥st),("openings",↥op)]):=af;generalize aN (aN H2 op (.lst [])) x (.ins CS d (L2.dZ "openings" ↥op [("states",↥st)]))=H5 at k5 z5 s5 o5 x5
 refine k st op z _ ⟨.inl rfl,.inr (.inl rfl),.inr (.inr (.inl rfl)),λa w=>?_,x5,⟨[z],s5,.cons ⟨.inr (.inr (.inr rfl)),nzs,nzo,[],z5,.nil⟩ .nil⟩,o5,nso,⟨⟨[],K⟩,λs o e=>(by cases s <;> cases e),λm rows e=>?_⟩⟩ k5 (aR a0 Dz) ?_ hz
 ·rcases w with rfl|rfl|rfl|rfl
  ·exact⟨_,x5⟩
  ·exact⟨_,s5⟩
  ·exact⟨_,o5⟩
  ·exact⟨_,z5⟩
 ·match m,e with
  | 0,e=>cases e;exact fK _
  | m+1,e=>cases e
 ·exact aR a01 (gM k2 LP Rh)
theorem qm:‹(1,34,["self"],(abY CS))›:=λD=>by
 specialize eS D.S0.F GC;let⟨x,d,st,op,as,rfl,hx,hs,k⟩:=h;exists _,(au (aJ (bz cY (gp D.T.gg (cC (pv 0) rfl)) ay)));exact⟨Y,x,CS,d,_,↥st,rfl,hx,D.cN.cl,D.j7,rfl,st,Y,.inl (bG.of hs),Z,k⟩
theorem uh:‹(1,35,["self"],(XZ CS))›:=λD=>by
 specialize eS D.Xs.F Ef;let⟨S,x,d,st,op,bN,ops,rfl,W,k⟩:=h;let⟨as,hs,a2⟩:=W.hs;let⟨last,hl,ol⟩:=W.Rn.Dh;exists _,(au (aJ (gp D.T.gg (aO bu (cC (pv 0) rfl) (gv d7 ay)))));let⟨O1,a,rfl,r⟩:=W.last hs;refine⟨Y,x,CS,d,_,↥st,rfl,W.hx,D.cN.cl,D.j7,rfl,Y,st,E,↥a,K,bG.of hs,(by rw[gE];exact gx _ _),?_⟩;let⟨_,_,_,rs,ha,al⟩:=r last hl;exists a,Y,.inl (bG.of ha);rw[cB,al.len,← ol];exact k
def ap1(rows:List (List aS))(ch:Nat × List aS):List (List aS):=rows.take ch.1++[ch.2]++rows.drop (ch.1+1)
def oA(rows:List (List aS))(qy:List (Nat × List aS)):List (List aS):=qy.foldl ap1 rows
def X3(rows:List (List aS))(qy:List (Nat × List aS)):Prop:=∀ (i:Nat) (ch:Nat × List aS),qy[i]?=⇑ch->ch.1<=↑(oA rows (qy.take i))
def TM{rows:List (List aS)}{ch:Nat × List aS}(h:ch.1<=↑rows):↑rows<=↑(ap1 rows ch)/\↑(ap1 rows ch)<=↑rows+1:=by
 unfold ap1;rw[cT,cT,gr,qH];simp only[gV];lia
def Di{rows:List (List aS)}{qy:List (Nat × List aS)}{i:Nat}{ch:Nat × List aS}(h:qy[i]?=⇑ch):oA rows (qy.take (i+1))=ap1 (oA rows (qy.take i)) ch:=by
 unfold oA;rw[take_snoc h,List.foldl_append];rfl
theorem AO{rows:List (List aS)}{qy:List (Nat × List aS)}(ok:X3 rows qy):∀ i,i<=↑qy->↑rows<=↑(oA rows (qy.take i))/\↑(oA rows (qy.take i))<=↑rows+i
 | 0,_=>⟨Nat.le_refl _,fK _⟩
 | i+1,h=>by
  have e:qy[i]?=⇑qy[i]:=tK ∅;have a:=AO ok i ∅;have b:=TM (ok i _ e);rw[Di e];lia
def Opn.step{bN:lC}{ops:List Int}{last rows:List (List aS)}(h:Opn bN ops)(hl:bN.getLast?=⇑last)(le:↑last<=↑rows):Opn (bN++[rows]) (ops++List.replicate (↑rows-↑last) ((↑bN:Nat):Int)):=by
 let⟨⟨l',hl',ol⟩,fit,less⟩:=h;rw[hl]at hl';cases hl'
 have get:∀ (m:Nat) (r:List (List aS)),(bN++[rows])[m]?=⇑r->bN[m]?=⇑r/\m<↑bN\/m=↑bN/\r=rows:=λm r e=>by
  by_cases c:m<↑bN
  ·rw[yP c]at e;exact .inl ⟨e,c⟩
  ·rw[List.getElem?_append_right ∅]at e
   match hm:m-↑bN,e with
   | 0,e=>cases e;exact .inr ⟨by lia,rfl⟩
   | k+1,e=>cases e
 refine⟨⟨rows,tN,by rw[cT,List.length_replicate];lia⟩,λs o e=>?_,λm r e=>?_⟩
 ·by_cases c:s<↑ops
  ·rw[yP c]at e;let⟨f0,f1,f2⟩:=fit s o e;refine⟨f0,by rw[cT];simp only[gV];lia,λm r em=>?_⟩;rcases get m r em with ⟨q,_⟩|⟨rfl,rfl⟩
   ·exact f2 m r q
   ·constructor
    ·intro _;lia
    ·intro _;lia
  ·rw[List.getElem?_append_right ∅,List.getElem?_replicate]at e;split at e
   ·cases e;refine⟨by lia,by rw[cT];simp only[gV];lia,λm r em=>?_⟩;rcases get m r em with ⟨q,lt⟩|⟨rfl,rfl⟩
    ·have:=less m r q;constructor
     ·intro z;lia
     ·intro z;lia
    ·constructor
     ·intro _;lia
     ·intro _;lia
   ·cases e
 ·rw[cT,List.length_replicate];rcases get m r e with ⟨q,_⟩|⟨rfl,rfl⟩
  ·have:=less m r q;lia
  ·lia
theorem cj.take{α β:Type}{R:α->β->Prop}:∀ {as:List α} {bs:List β} (n:Nat),cj R as bs->cj R (as.take n) (bs.take n)
 | _,_,0,_=>by rw[List.take_zero,List.take_zero];exact .nil
 | _,_,n+1,.nil=>.nil
 | _,_,n+1,.cons e r=>.cons e (r.take n)
theorem cj.drop{α β:Type}{R:α->β->Prop}:∀ {as:List α} {bs:List β} (n:Nat),cj R as bs->cj R (as.drop n) (bs.drop n)
 | _,_,0,h=>h
 | _,_,n+1,.nil=>.nil
 | _,_,n+1,.cons _ r=>r.drop n
theorem GD(v:V):∀ n:Nat,(List.replicate n [v]).flatten=List.replicate n v
 | 0=>rfl
 | n+1=>by rw[List.replicate_succ,List.flatten_cons,GD v n,List.replicate_succ];rfl
def TN{H:Hp}{a:Addr}{ob:HO}(h:H a=⇑ob):aN H a ob=H:=by
 funext b;by_cases e:b=a
 ·rw[e,af,h]
 ·rw[aL e]
def JK(H:Hp)(a:Addr)(ch:Nat × List aS):Prop:=∃ r:Addr,H a=⇑(.tup [.int (ch.1:Nat),↥r])/\bw H ↥r ch.2
theorem JK.same{H H':Hp}{a:Addr}{ch:Nat × List aS}(s:aI H H'):JK H a ch->JK H' a ch:=λ⟨r,h1,h2⟩=>⟨r,s _ _ h1,h2.same s⟩
class inductive P6(C:Addr)
 | mk (S:Addr->Prop) (x d st op c:Addr) (bN:lC) (ops:List Int) (cs:List Addr) (qy:List (Nat × List aS)) (last:List (List aS)) (_:vs=[↥x,↥c]) (_:Sh C S H x d st op bN ops) (_:H c=⇑(.lst (cs.map V.ref))) (_:cj (JK H) cs qy) (_:bN.getLast?=⇑last) (_:X3 last qy) (_:↑qy<=200) (_:↑last<=500) (_:↑bN<=1000) (_ :
 ∀ (S':Addr->Prop) (H':Hp),Sh C S' H' x d st op (bN++[oA last qy]) (ops++List.replicate (↑(oA last qy)-↑last) ((↑bN:Nat):Int))->(∀ a,S' a->S a\/H a=none)->(∀ a ob,H a=⇑ob->¬ S a->H' a=⇑ob)->(∀ a xs,H a=⇑(.tup xs)->H' a=⇑(.tup xs))->Q .fT H')
theorem iK:aF ["self","changes","state","ahead","sheet","items"] ["self","changes"] (az rj):=eO
theorem BL:‹(2,36,["self","changes"],(P6 CS))›:=λD=>by
 specialize eS D.aaQ.F iK;let⟨S,x,d,st,op,c,bN,ops,cs,qy,last,rfl,W,hc,a2,hl,okc,lc,ll,lp,k⟩:=h;exists _,(aj (aZ (i:=2) iK.nd (aO bu (cC (pv 0) rfl) (gv d7 ay))) (aj (aZ (i:=3) iK.nd (gp D.T.gg (pv 2))) (aj (dX PassesOwn.never rfl (cu (pv 1)) (kQ (n:=2) rfl (bP (bQ (i:=4) iK.nd) (bP (bQ (i:=5) iK.nd) fX))) (au (aZ (i:=2) iK.nd (aH D.Xr (AN D) hr (aa (pv 2) (aa (pv 4) (aa (d9 eX rfl D.T.iR tL (aa (pv 5) ah)) ah))))))) (aj (aT (dQ qF jV jW bS (cC (pv 0) rfl) (aa (pv 2) ah))) (au (su (pv 0) (bz Ox (bL (aa (fc (pv 0) D.cN D.S0 (qm D) hr bC) ah)) (bz cY (gp D.T.gg (pv 2)) (pv 3))) Jj))))));let⟨as,hs,al⟩:=id W.hs;let⟨O1,a,ea,r⟩:=W.last hs;let⟨Sa,na1,na2,rs,ha,ar⟩:=r last hl;have lal:=al.len;refine⟨Y,x,CS,d,_,↥st,rfl,W.hx,D.cN.cl,D.j7,rfl,Y,st,E,↥a,K,bG.of hs,(by rw[ea,gE];exact gx _ _),?_⟩;exists Y,a,Y,.inl (bG.of ha);rw[cB,ar.len];have Dz:∀ q,H q=none->q≠st/\q≠op:=λq hq=>⟨λz=>(by rw[z,hs]at hq;cases hq),λz=>(by rw[z,W.ho]at hq;cases hq)⟩;refine⟨Y,c,rfl,⟨_,bG.of hc⟩,dB (K:=K) (a:=c) (xs:=cs.map V.ref) (λi σ H1=>∃ (u4 u5:Option V) (S1:Addr->Prop) (ai:Addr),σ=[⇑↥x,⇑↥c,⇑↥ai,⇑(.int (↑last:Nat)),u4,u5]/\aI H H1/\(∀ q,S q->S1 q)/\(∀ q,S1 q->S q\/H q=none)/\(∀ q,S1 q->∃ ob,H1 q=⇑ob)/\JJ S1 H1 st op ai (oA last (qy.take i))) ⟨none,none,S,a,rfl,aI.refl _,λ_ z=>z,λ_ z=>.inl z,W.al,r last hl⟩ (by rintro i σ H1 _ ⟨_,_,_,_,_,s,_⟩;exact bG.of (s _ _ hc)) ?_ ?_⟩
 ·rintro i y σ H1 hi ⟨u4,u5,S1,ai,rfl,s1,up,sub,al1,sa1⟩;rw[mY]at hi;let⟨t,et,rfl⟩:=Option.map_eq_some_iff.mp hi;let⟨ch,ech,q⟩:=a2.get et;have il:=(List.getElem?_eq_some_iff.mp ech).1;let⟨ri,ht,hri⟩:=q.same s1;let⟨b,vs,eb,hb,itb⟩:=id hri;cases eb;let⟨Sai,ab1,afP,rsi,hai,ari⟩:=id sa1;exists t,Y,cW.of ht,rfl,E,rfl,Z;refine⟨Y,Y,Y,ri,Y,.inl (bG.of hb),λz hz=>?_⟩;have s2:aI H1 (aN H1 z (.lst vs)):=ak hz _;have z2:(aN H1 z (.lst vs)) z=⇑(.lst vs):=af;generalize aN H1 z (.lst vs)=H2 at s2 z2;have lens:=AO okc i ∅;have afQ:=okc i ch ech;have lri:=ari.len;refine⟨ai,z,_,ch.1,rfl,s2 _ _ hai,by rw[cB,lri];exact afQ,by rw[cB,lri];lia,λp H3 hp3 s3 fp=>?_⟩;have NT:=s2.trans s3;have fz:H z=none:=aR s1 hz;have fp':H p=none:=aR (s1.trans s2) fp;exists E,λq=>S1 q\/q=z\/q=p,p,rfl,s1.trans NT,λq z=>.inl (up q z),λq w=>?_,λq w=>?_,.inr (.inr rfl),(Dz p fp').1,(Dz p fp').2,rsi.take ch.1++[z]++rsi.drop (ch.1+1),?_
  ·rcases w with w|rfl|rfl
   ·exact sub q w
   ·exact .inr fz
   ·exact .inr fp'
  ·rcases w with w|rfl|rfl
   ·let⟨ob,e⟩:=al1 q w;exact⟨ob,NT _ _ e⟩
   ·exact⟨_,s3 _ _ z2⟩
   ·exact⟨_,hp3⟩
  ·rw[hp3];simp only[gE,List.map_take,List.map_drop,jy,List.map_nil]
  ·rw[Di ech];have mv:cj (abX (λq=>S1 q\/q=z\/q=p) H3 st op) rsi (oA last (qy.take i)):=ari.mono λr aP q=>⟨.inl q.own,q.ne,q.at'.same NT⟩;refine ((mv.take ch.1).app (.cons ⟨.inr (.inl rfl),Dz z fz,⟨z,vs,rfl,s3 _ _ z2,itb.mono λv it q=>q.same NT⟩⟩ .nil)).app (mv.drop (ch.1+1))
 ·rintro σ H1 ⟨u4,u5,S1,ai,rfl,s1,up,sub,al1,sa1⟩;have lcs:↑(cs.map V.ref)=↑qy:=by rw[cB,a2.len]
  rw[lcs,gH]at sa1;have lens:=AO okc ↑qy (fK _);rw[gH]at lens;let⟨Sai,ab1,afP,rsi,hai,ari⟩:=id sa1;have lri:=ari.len;have W1:=W.same s1;have X4:=s1 _ _ hs;refine⟨Y,x,CS,d,_,↥st,rfl,W1.hx,D.cN.cl,D.j7,rfl,.inl ⟨rfl,_,bG.of X4⟩,Y,st,Z,X4,(by rw[cB];exact aQ ∅),?_⟩;rw[show as.map V.ref++[↥ai]=(as++[ai]).map V.ref by rw[gE];rfl];have k2:cz st H1 (aN H1 st (.lst ((as++[ai]).map V.ref))):=aG st _ _;have st2:(aN H1 st (.lst ((as++[ai]).map V.ref))) st=⇑(.lst ((as++[ai]).map V.ref)):=af;generalize aN H1 st (.lst ((as++[ai]).map V.ref))=H2 at k2 st2;have nxs:x≠st:=cK W1.hx X4;have nxo:x≠op:=cK W1.hx W1.ho;have x2:=k2 _ _ W1.hx nxs;have o2:=k2 _ _ W1.ho W.ne.symm;have ai2:=k2 _ _ hai ab1
  have lmn:(↑((as++[ai]).map V.ref):Int)-1=((↑bN:Nat):Int):=by
   rw[cB,cT,lal];simp only[gV];lia
  exists Y,x,CS,d,_,↥op,rfl,x2,D.cN.cl,D.oN,rfl,Y,x,d,Y,x2,rfl,x,d,st,op,Y,x2,st2;rw[lmn];refine⟨ku,λt2 NN=>?_⟩;have s3:aI H2 (aN H2 t2 (.lst [.int (↑bN:Nat)])):=ak NN _;have b3:(aN H2 t2 (.lst [.int (↑bN:Nat)])) t2=⇑(.lst [.int (↑bN:Nat)]):=af;generalize aN H2 t2 (.lst [.int (↑bN:Nat)])=H3 at s3 b3;exists Y,ai,Y,.inl (bG.of (s3 _ _ ai2)),Y,Z;rw[cB,lri];have ek:((↑(oA last qy):Nat):Int)-((↑last:Nat):Int)=((↑(oA last qy)-↑last:Nat):Int):=by lia
  show ZW _ (V.int (((↑(oA last qy):Nat):Int)-((↑last:Nat):Int))) _ _;rw[ek];refine⟨t2,Z,b3,by lia,by lia,(by simp only[gV];exact gG (aQ ∅)),λt3 TQ=>?_⟩;rw[Int.toNat_natCast,GD];generalize hk:↑(oA last qy)-↑last=kk;have s4:aI H3 (aN H3 t3 (.lst (List.replicate kk (V.int (↑bN:Nat))))):=ak TQ _;have b4:(aN H3 t3 (.lst (List.replicate kk (V.int (↑bN:Nat))))) t3=⇑(.lst (List.replicate kk (V.int (↑bN:Nat)))):=af;generalize aN H3 t3 (.lst (List.replicate kk (V.int (↑bN:Nat))))=H4 at s4 b4;have s24:=s3.trans s4
  have lo:↑ops<=700:=by
   let⟨l',hl',ol⟩:=W.Rn.Dh;rw[hl]at hl';cases hl';lia
  refine⟨op,t3,Z,s24 _ _ o2,b4,(by rw[cB,List.length_replicate];exact gG (aQ ∅)),?_⟩;rw[show ops.map V.int++List.replicate kk (V.int (↑bN:Nat))=(ops++List.replicate kk ((↑bN:Nat):Int)).map V.int by rw[gE,List.map_replicate]];have k5:cz op H4 (aN H4 op (.lst ((ops++List.replicate kk ((↑bN:Nat):Int)).map V.int))):=aG op _ _;have o5:(aN H4 op (.lst ((ops++List.replicate kk ((↑bN:Nat):Int)).map V.int))) op=⇑(.lst ((ops++List.replicate kk ((↑bN:Nat):Int)).map V.int)):=af;generalize aN H4 op (.lst ((ops++List.replicate kk ((↑bN:Nat):Int)).map V.int))=H5 at k5 o5;have x5:=k5 _ _ (s24 _ _ x2) nxo;refine⟨d,_,x5,(by show 2<1000;decide),?_⟩;have e5:aN H5 x (.ins CS d (L2.dZ "openings" ↥op ([("states",↥st),("openings",↥op)]:List (Str × V))))=H5:=TN x5;rw[e5];have k15:∀ q ob,H1 q=⇑ob->q≠st->q≠op->H5 q=⇑ob:=λq ob e m1 m2=>k5 _ _ (s24 _ _ (k2 _ _ e m1)) m2;have t15:∀ q xs,H1 q=⇑(.tup xs)->H5 q=⇑(.tup xs):=λq xs e=>k15 _ _ e (cK e X4) (cK e W1.ho);have YK:=k5 _ _ (s24 _ _ st2) W.ne;refine k S1 H5 ⟨up _ W.sx,up _ W.ss,up _ W.so,λq w=>?_,x5,⟨as++[ai],YK,?_⟩,by rw[hk];exact o5,W.ne,W.Rn.step hl lens.1⟩ sub (λq ob e n=>?_) (λq xs e=>t15 _ _ (s1 _ _ e))
  ·by_cases z1:q=st
   ·rw[z1];exact⟨_,YK⟩
   by_cases z2:q=op
   ·rw[z2];exact⟨_,o5⟩
   let⟨ob,e⟩:=al1 q w;exact⟨ob,k15 _ _ e z1 z2⟩
  ·refine (cj.mono (λa rows q=>?_) al).app (.cons (sa1.fr (λ_ z=>z) (λq ob e _ m1 m2=>k15 _ _ e m1 m2) t15) .nil);exact q.fr up (λq ob e _ m1 m2=>k15 _ _ (s1 _ _ e) m1 m2) (λq xs e=>t15 _ _ (s1 _ _ e))
  ·exact k15 _ _ (s1 _ _ e) (λz=>n (by rw[z];exact W.ss)) (λz=>n (by rw[z];exact W.so))
def qM(n:Nat)(a:Int):Prop:=0<=a/\a<(n:Nat)
def qM.get{n:Nat}{a:Int}(h:qM n a):∃ j:Nat,a=j/\j<n:=by
 let⟨h0,h1⟩:=h;exact⟨a.toNat,by lia,by lia⟩
def ab3(bN:lC)(ops:List Int):Prop:=↑bN<=1000/\↑ops<=1000
class inductive Dj(C:Addr)
 | mk (S:Addr->Prop) (x d st op:Addr) (bN:lC) (ops:List Int) (s:Int) (_:vs=[↥x,.int s]) (_:Sh C S H x d st op bN ops) (_:qM ↑ops s) (_:Q .fT H)
class inductive Nd(C:Addr)
 | mk (S:Addr->Prop) (x d st op:Addr) (bN:lC) (ops:List Int) (m:Int) (_:vs=[↥x,.int m]) (_:Sh C S H x d st op bN ops) (_:qM ↑bN m) (_:Q .fT H)
def Told(H:Hp)(aP:List aS)(Q:V->Hp->Prop):Prop:=∀ (q:Addr) (H':Hp),bw H' ↥q aP->aI H H'->H q=none->Q ↥q H'
class inductive X5(C:Addr)
 | mk (S:Addr->Prop) (x d st op:Addr) (bN:lC) (ops:List Int) (s:Int) (_:vs=[↥x,.int s]) (_:Sh C S H x d st op bN ops) (_:qM ↑ops s) (_:(∀ (si:Nat) (last:List (List aS)) (aP:List aS),s=si->bN.getLast?=⇑last->last[si]?=⇑aP->Told H aP Q))
def TR(H H':Hp)(q:Addr)(rows:List (List aS)):Prop:=H q=none/\∃ rs:List Addr,H' q=⇑(.lst (rs.map V.ref))/\cj (λr aP=>H r=none/\r≠q/\bw H' ↥r aP) rs rows
class inductive GF(C:Addr)
 | mk (S:Addr->Prop) (x d st op:Addr) (bN:lC) (ops:List Int) (m:Int) (_:vs=[↥x,.int m]) (_:Sh C S H x d st op bN ops) (_:ab3 bN ops) (_:qM ↑bN m) (_:(∀ (mi:Nat) (rows:List (List aS)),m=mi->bN[mi]?=⇑rows->∀ (q:Addr) (H':Hp),TR H H' q rows->aI H H'->Q ↥q H'))
class inductive P7(C:Addr)
 | mk (S:Addr->Prop) (x d st op:Addr) (bN:lC) (ops:List Int) (_:vs=[↥x]) (_:Sh C S H x d st op bN ops) (_:ab3 bN ops) (_:(∀ (rows:List (List aS)),bN.getLast?=⇑rows->∀ (q:Addr) (H':Hp),TR H H' q rows->aI H H'->Q ↥q H'))
theorem tO:aF ["self","sheet"] ["self","sheet"] (az jg):=eO
theorem rP:aF ["self","moment"] ["self","moment"] (az iO):=eO
theorem GG:aF ["self","sheet"] ["self","sheet"] (az uI):=eO
theorem wm:aF ["self","moment"] ["self","moment"] (az iH):=eO
theorem Eg:aF ["self"] ["self"] (az rm):=eO
theorem cG:‹(2,37,["self","sheet"],(Dj CS))›:=λD=>by
 specialize eS D.DY.F tO;let⟨S,x,d,st,op,bN,ops,a,rfl,W,iw,k1⟩:=h;exists _,(au (bO (jd (qW fY jT ay (pv 1) (fc (pv 0) D.cN D.Xs (uh D) hr bC))) (au iV) br));exists Y,Z,Y;rw[decide_eq_true iw.1];refine cR (λ_=>?_) (λc=>absurd rfl c);exists Y,x,d,Y,W.hx,rfl,S,x,d,st,op,bN,ops,rfl,W,Z,Y;rw[decide_eq_true iw.2];exact eL k1
theorem qN:‹(2,38,["self","moment"],(Nd CS))›:=λD=>by
 specialize eS D.aaR.F rP;let⟨S,x,d,st,op,bN,ops,a,rfl,W,iw,k1⟩:=h;let⟨as,hs,al⟩:=W.hs;exists _,(au (bO (jd (qW fY fY ay (pv 1) (fc (pv 0) D.cN D.S0 (qm D) hr bC))) (au iV) br));exists Y,Z,Y;rw[decide_eq_true iw.1];refine cR (λ_=>?_) (λc=>absurd rfl c);exists Y,x,d,Y,W.hx,rfl,x,d,st,op,Y,W.hx,hs,Z,Y;rw[decide_eq_true (show a<=(↑(as.map V.ref):Int)-1 by rw[cB,al.len];exact Int.le_sub_one_of_lt iw.2)];exact eL k1
def Sh.at'{S:Addr->Prop}{H:Hp}{x d st:Addr}{bN:lC}{ops:List Int}(h:Sh C S H x d st op bN ops){as:List Addr}(ha:H st=⇑(.lst (as.map V.ref))){i:Nat}{rows:List (List aS)}(e:bN[i]?=⇑rows):∃ a,as[i]?=⇑a/\JJ S H st op a rows:=by
 let⟨bs,hb,a2⟩:=h.hs
 have e':as=bs:=by
  rw[ha]at hb;exact AM (HO.lst.inj (oB hb))
 subst e';exact a2.get' e
def Sh.Vv{S:Addr->Prop}{H:Hp}{x d st:Addr}{bN:lC}{ops:List Int}(h:Sh C S H x d st op bN ops):∃ last,bN.getLast?=⇑last/\bN[↑bN-1]?=⇑last/\↑ops=↑last:=by
 let⟨last,hl,ol⟩:=h.Rn.Dh;refine⟨last,hl,?_,ol⟩;rw[List.getLast?_eq_getElem?]at hl;exact hl
theorem Eh:‹(3,41,["self","sheet"],(X5 CS))›:=λD=>by
 specialize eS D.aaT.F GG;let⟨S,x,d,st,op,bN,ops,a,rfl,W,ia,k1⟩:=h;exists _,(aj (aT (cA (pv 0) D.cN D.DY (cG D) hr bC (aa (pv 1) ah))) (au (aJ (d9 eX rfl D.T.iR tL (aa (aO bu (aO bu (cC (pv 0) rfl) (gv d7 ay)) (pv 1)) ah)))));exists Y,x,d,Y,W.hx,rfl,Y,S,x,d,st,op,bN,ops,a,rfl,W,ia;let⟨j,rfl,jl⟩:=ia.get;let⟨as,hs,al⟩:=id W.hs;let⟨O1,b,ea,r⟩:=W.last hs;let⟨last,hl,_,ol⟩:=W.Vv;let⟨_,_,_,rs,hb,ar⟩:=r last hl;have el:last[j]?=⇑last[j]:=tK ∅;let⟨ri,eri,iW⟩:=ar.get' el;let⟨c,vs,ec,hc,it⟩:=iW.at';cases ec;refine⟨Y,x,CS,d,_,↥st,rfl,W.hx,D.cN.cl,D.j7,rfl,Y,st,E,↥b,K,bG.of hs,(by rw[ea,gE];exact gx _ _),Y,b,E,↥ri,K,bG.of hb,dm (by rw[mY,eri];rfl),ri,Y,.inl (bG.of hc),λq hq=>?_⟩;exact k1 j last _ rfl hl el q _ ⟨q,vs,rfl,af,it.mono λv i z=>z.same (ak hq _)⟩ (ak hq _) hq
theorem vf:‹(3,39,["self","moment"],(GF CS))›:=λD=>by
 specialize eS D.aaS.F wm;let⟨S,x,d,st,op,bN,ops,m,rfl,W,ok,im,k1⟩:=h;let⟨as,hs,al⟩:=id W.hs;refine⟨_,(aj (aT (cA (pv 0) D.cN D.aaR (qN D) hr bC (aa (pv 1) ah))) (au (aJ (gI (N:=["items"]) (jI (sc:=az iH) (NX:=["self","moment"]) (jx:=[none]) rfl rfl rfl nofun nofun rfl nofun rfl nofun) rfl (cu (aO bu (cC (pv 0) rfl) (pv 1))) (λ_ _ _ _ _ _=>(bQ (i:=0) (show List.Nodup (["items"]:List Str) by decide +kernel))) (λ_ _ _ _ _ _=>fZ) (λ_ _ _ _ _ _=>(d9 Ji rfl D.T.iR tL (aa (pv 0) ah))))))),?_⟩;exists Y,x,d,Y,W.hx,rfl,Y,S,x,d,st,op,bN,ops,m,rfl,W,im;let⟨i,rfl,il⟩:=im.get;have er:bN[i]?=⇑bN[i]:=tK il;generalize bN[i]=rows at er;let⟨b,eb,_,_,_,rs,hb,ar⟩:=W.at' hs er;have lr:=ar.len;have lo:=W.Rn.less i rows er;have ok2:=ok.2;refine⟨Y,x,CS,d,_,↥st,rfl,W.hx,D.cN.cl,D.j7,rfl,Y,st,E,↥b,K,bG.of hs,dm (by rw[mY,eb];rfl),?_⟩;refine⟨b,rfl,⟨_,bG.of hb⟩,λacc cP=>fE (K:=K) (a:=b) (xs:=rs.map V.ref) (λj σ H1=>∃ (u:Option V) (qs:List Addr),σ=[u]/\H1 acc=⇑(.lst (qs.map V.ref))/\aI H H1/\cj (λr aP=>H r=none/\r≠acc/\bw H1 ↥r aP) qs (rows.take j)) ⟨none,[],rfl,af,ak cP _,by rw[List.take_zero];exact .nil⟩ (λj σ H1 _ ⟨Q,_,s,_⟩=>bG.of (s _ _ hb)) ?_ ?_⟩
 ·rintro j y σ H1 hj ⟨u,qs,rfl,ha,s1,aq⟩;rw[mY]at hj;let⟨ri,eri,rfl⟩:=Option.map_eq_some_iff.mp hj;let⟨aP,afU,iW⟩:=ar.get eri;let⟨c,vs,ec,hc,it⟩:=iW.at';cases ec;refine⟨Y,ri,Y,.inl (bG.of (s1 _ _ hc)),λz hz=>⟨_,ak hz _ _ _ ha,?_,_,qs++[z],rfl,?_,?_,?_⟩⟩
  ·have:=aq.len;rw[gr]at this;rw[cB];exact aQ ∅
  ·rw[af,gE];rfl
  ·intro q ob e;rw[aL (aA e cP)];exact ak hz _ _ _ (s1 _ _ e)
  ·have nza:z≠acc:=(aA ha hz).symm
   have fr:∀ q ob,H1 q=⇑ob->q≠acc->(aN (aN H1 z (.lst vs)) acc (.lst (qs.map V.ref++[↥z]))) q=⇑ob:=λq ob e n=>by
    rw[aL n];exact ak hz _ _ _ e
   have tu:∀ q xs,H1 q=⇑(.tup xs)->(aN (aN H1 z (.lst vs)) acc (.lst (qs.map V.ref++[↥z]))) q=⇑(.tup xs):=λq xs e=>fr _ _ e (cK e ha (by intro w;cases w));rw[take_snoc afU];refine cj.snoc (aq.mono λr aP ⟨h1,h2,h3⟩=>⟨h1,h2,h3.fr (λxs e=>fr _ _ e h2) tu⟩) ⟨aR s1 hz,nza,z,vs,rfl,?_,it.mono λv i ⟨q,e,hq⟩=>⟨q,e,tu _ _ (s1 _ _ hq)⟩⟩;rw[aL nza];exact af
 ·rintro σ H1 ⟨u,qs,rfl,ha,s1,aq⟩;rw[cB,lr,gH]at aq;exact k1 i rows rfl er acc H1 ⟨cP,qs,ha,aq⟩ s1
theorem fj:‹(4,40,["self"],(P7 CS))›:=λD=>by
 specialize eS D.DZ.F Eg;let⟨S,x,d,st,op,bN,ops,rfl,W,ok,k⟩:=h;let⟨as,hs,al⟩:=id W.hs;let⟨last,hl,Bu,_⟩:=W.Vv;have lp:↑bN-1<↑bN:=(List.getElem?_eq_some_iff.mp Bu).1;have ok1:=ok.1;have la:((↑(as.map V.ref):Nat):Int)-1=((↑bN-1:Nat):Int):=by rw[cB,al.len];lia
 exists _,(au (aJ (cA (pv 0) D.cN D.aaS (vf D) hr bC (aa (fc (pv 0) D.cN D.S0 (qm D) hr bC) ah))));exists Y,x,d,Y,W.hx,rfl,Y,x,d,Y,W.hx,rfl,x,d,st,op,Y,W.hx,hs;rw[la];refine⟨S,x,d,st,op,bN,ops,Y,W,ok,⟨by lia,by lia⟩,λmi rows em er q H1 fs s1=>?_⟩;have:mi=↑bN-1:=by lia
 subst this;rw[Bu]at er;cases er;exact k last hl q H1 fs s1
class inductive X6(C:Addr)
 | mk (x d:Addr) (_:vs=[↥x]) (_:H x=⇑(.ins C d [])) (_:∀ (t:Addr) (H':Hp),H' x=⇑(.ins C d [("given",.int 0),("pairs",↥t)])->H' t=⇑(.dK [])->cz x H H'->H t=none->Q .fT H')
class inductive X7(C:Addr)
 | mk (x d:Addr) (_:vs=[↥x]) (_:H x=⇑(.ins C d [])) (_:∀ (t:Addr) (H':Hp),H' x=⇑(.ins C d [("sums",↥t)])->H' t=⇑(.dK [])->cz x H H'->H t=none->Q .fT H')
theorem yW:aF ["self"] ["self"] (az mw):=eO
theorem yX:aF ["self"] ["self"] (az mz):=eO
theorem GH{x z:Addr}{H:Hp}{o o':HO}(hz:H z=none):cz x H (aN (aN H z o) x o'):=λa ob e n=>by
 rw[aL n];exact ak hz o a ob e
theorem xX:‹(1,43,["self"],(X7 CD))›:=λD=>by
 specialize eS D.aaV.F yX;let⟨x,d,rfl,hx,k⟩:=h;exists _,(au (je (pv 0) ko rfl));intro t ht;have nt:t≠x:=(aA hx ht).symm;exact⟨Y,x,CD,d,Y,ak ht _ _ _ hx,D.vS.cl,D.Cy,by decide,k t _ af (by rw[aL nt,af]) (GH ht) ht⟩
theorem xY:‹(1,42,["self"],(X6 CT))›:=λD=>by
 specialize eS D.aaU.F yW;let⟨x,d,rfl,hx,k⟩:=h;exists _,(aj (je (pv 0) ay rfl) (au (je (pv 0) ko rfl)));refine⟨Y,x,CT,d,Y,hx,D.ue.cl,D.xu,by decide,?_⟩;have k1:cz x H (aN H x (.ins CT d (L2.dZ "given" (.int 0) []))):=aG x _ _;have h1:(aN H x (.ins CT d (L2.dZ "given" (.int 0) []))) x=⇑(.ins CT d [("given",.int 0)]):=af;generalize aN H x (.ins CT d (L2.dZ "given" (.int 0) []))=H1 at k1 h1;intro t ht;have nt:t≠x:=(aA h1 ht).symm;exact⟨Y,x,CT,d,Y,ak ht _ _ _ h1,D.ue.cl,D.zY,(by show 1<1000;decide),k t _ af (by rw[aL nt,af]) (k1.trans (GH ht)) (gM k1 nt ht)⟩
def Nf(aK:gD):List V:=aK.map λp=>By p.2
def II(aK:gD):List V:=aK.map λp=>V.int p.1
def qo(h:Int)(cs:List Nat):gD:=cs.map λc=>(h,c)
theorem tF(h:Int)(cs:List Nat):↑(qo h cs)=↑cs:=cB ..
def TU(aK:gD)(h:Int)(cs:List Nat):Nf (aK++qo h cs)=Nf aK++cs.map By:=by
 unfold Nf qo;rw[gE,List.map_map];rfl
theorem Ei(v:V):∀ n:Nat,(List.replicate n [v]).flatten=List.replicate n v
 | 0=>rfl
 | n+1=>by rw[List.replicate_succ,List.flatten_cons,Ei v n,List.replicate_succ];rfl
def TV(aK:gD)(h:Int)(cs:List Nat):II (aK++qo h cs)=II aK++(List.replicate ↑cs [V.int h]).flatten:=by
 rw[Ei];unfold II qo;rw[gE,List.map_map];congr 1;exact List.map_eq_replicate_iff.mpr λc _=>rfl
def vg(h:Int):Nat->gD->List Int
 | _,[]=>[]
 | i,p::r=>if p.1=h then (i:Int)::vg h (i+1) r else vg h (i+1) r
theorem mU(h:Int):∀ (a b:gD) (i:Nat),vg h i (a++b)=vg h i a++vg h (i+↑a) b
 | [],b,i=>rfl
 | p::a,b,i=>by
  rw[List.cons_append,vg,vg,jS,mU h a b (i+1),show i+1+↑a=i+(↑a+1) by lia]
  split <;> rfl
theorem xZ(h:Int):∀ (cs:List Nat) (i:Nat),vg h i (qo h cs)=run (i:Int) ↑cs
 | [],i=>rfl
 | c::cs,i=>by
  show vg h i ((h,c)::qo h cs)=_;rw[vg,if_pos rfl,xZ h cs (i+1),jS,run,show ((i+1:Nat):Int)=(i:Int)+1 by lia]
theorem mW{h g:Int}(n:g≠h):∀ (cs:List Nat) (i:Nat),vg h i (qo g cs)=[]
 | [],i=>rfl
 | c::cs,i=>by
  show vg h i ((g,c)::qo g cs)=_;rw[vg,if_neg n,mW n cs (i+1)]
def AQ(a b:Int)(k:Nat)(e:b=a+k):bK [(a,b)]=run a k:=by
 show jG (a,b)++[]=_;rw[fV];show run a (b-a).toNat=_;rw[show (b-a).toNat=k by lia]
structure Pw(S:Addr->Prop)(H:Hp)(s o:Addr)(n:Nat)(kvs:List (dN × V))(aK:gD):Prop where
 got:∀ h v,cL kvs (Sum.inl h)=⇑v->∃ (l:Addr) (row:Row),v=↥l/\S l/\l≠s/\l≠o/\bW H l row/\(∀ p∈row,p.1<=p.2)/\bK row=vg h 0 aK/\↑row<=n
 fT:∀ h,cL kvs (Sum.inl h)=none->vg h 0 aK=[]
 one:∀ h g v,cL kvs (Sum.inl h)=⇑v->cL kvs (Sum.inl g)=⇑v->h=g
 len:↑kvs<=n
structure We(C:Addr)(S:Addr->Prop)(H:Hp)(x d s o p:Addr)(n:Nat)(aK:gD):Prop where
 sx:S x
 ss:S s
 so:S o
 sp:S p
 al:∀ a,S a->∃ ob,H a=⇑ob
 hx:H x=⇑(.ins C d [("signs",↥s),("owners",↥o),("pourings",↥p)])
 hs:H s=⇑(.lst (Nf aK))
 ho:H o=⇑(.lst (II aK))
 ne:s≠o
 dk:∃ kvs,H p=⇑(.dK kvs)/\Pw S H s o n kvs aK
def bW.two{H H':Hp}{r:Addr}{row:Row}(h:bW H r row)(k:∀ xs,H r=⇑(.lst xs)->H' r=⇑(.lst xs))(t:∀ a xs,H a=⇑(.tup xs)->H' a=⇑(.tup xs)):bW H' r row:=by
 let⟨as,h1,h2⟩:=h;exact⟨as,k _ h1,h2.tups t⟩
def We.fr{S:Addr->Prop}{H H':Hp}{x d s p:Addr}{n:Nat}{aK:gD}(h:We C S H x d s o p n aK)(k:∀ a ob,H a=⇑ob->S a->H' a=⇑ob)(t:∀ a xs,H a=⇑(.tup xs)->H' a=⇑(.tup xs)):We C S H' x d s o p n aK:=by
 let⟨sx,ss,so,sp,al,hx,hs,ho,ne,kvs,hp,pw⟩:=h;refine⟨sx,ss,so,sp,λa z=>?_,k _ _ hx sx,k _ _ hs ss,k _ _ ho so,ne,kvs,k _ _ hp sp,λh v e=>?_,pw.fT,pw.one,pw.len⟩
 ·let⟨ob,e⟩:=al a z;exact⟨ob,k _ _ e z⟩
 ·let⟨l,row,e1,e2,e3,e4,e5,r⟩:=pw.got h v e;exact⟨l,row,e1,e2,e3,e4,e5.two (λxs q=>k _ _ q e2) t,r⟩
theorem We.same{S:Addr->Prop}{H H':Hp}{x d s p:Addr}{n:Nat}{aK:gD}(h:We C S H x d s o p n aK)(k:aI H H'):We C S H' x d s o p n aK:=h.fr (λa ob e _=>k a ob e) (λa xs e=>k _ _ e)
theorem Ls(aK:gD):↑(Nf aK)=↑aK:=cB ..
theorem TX(aK:gD):↑(II aK)=↑aK:=cB ..
def P8{H:Hp}{a:Addr}{ob:HO}(h:H a=⇑ob):aN H a ob=H:=by
 funext b;by_cases e:b=a
 ·rw[e,af,h]
 ·rw[aL e]
class inductive TY(C:Addr)
 | mk (x d:Addr) (_:vs=[↥x]) (_:H x=⇑(.ins C d [])) (_: ∀ (s o p:Addr) (H':Hp),We C (λa=>a=x\/a=s\/a=o\/a=p) H' x d s o p 0 []->cz x H H'->H s=none->H o=none->H p=none->Q .fT H')
class inductive TZ(C:Addr)
 | mk (x d s o p:Addr) (aK:gD) (_:vs=[↥x]) (_:H x=⇑(.ins C d [("signs",↥s),("owners",↥o),("pourings",↥p)])) (_:H s=⇑(.lst (Nf aK))) (_:Q (.int (↑aK:Nat)) H)
class inductive X8(C:Addr)
 | mk (S:Addr->Prop) (x d s o p:Addr) (n:Nat) (aK:gD) (h:Int) (cs:List Nat) (_:vs=[↥x,.int h,.str (eT cs)]) (_:We C S H x d s o p n aK) (_:↑aK+↑cs<=100000) (_:n<=1000) (_ :
 ∀ (S':Addr->Prop) (q:Addr) (H':Hp),We C S' H' x d s o p (n+1) (aK++qo h cs)->H' q=⇑(.tup [.int (↑aK:Nat),.int (↑(aK++qo h cs):Nat)])->(∀ a,S' a->S a\/H a=none)->(∀ a ob,H a=⇑ob->¬ S a->H' a=⇑ob)->(∀ a xs,H a=⇑(.tup xs)->H' a=⇑(.tup xs))->Q ↥q H')
theorem yY:aF ["self"] ["self"] (az mC):=eO
theorem GI:aF ["self"] ["self"] (az uJ):=eO
theorem rQ:aF ["self","hand","text","start","stretch"] ["self","hand","text"] (az uK):=eO
theorem ya:‹(1,44,["self"],(TY CW))›:=λD=>by
 specialize eS D.aaW.F yY;let⟨x,d,rfl,hx,k⟩:=h;exists _,(aj (je (pv 0) (bL ah) rfl) (aj (je (pv 0) (bL ah) rfl) (au (je (pv 0) ko rfl))));refine⟨gQ,λs hs=>?_⟩;have a1:aI H (aN H s (.lst [])):=ak hs _;have b1:(aN H s (.lst [])) s=⇑(.lst []):=af;generalize aN H s (.lst [])=H1 at a1 b1;refine⟨Y,x,CW,d,Y,a1 _ _ hx,D.gU.cl,D.uT,by decide,?_⟩;have k2:cz x H1 (aN H1 x (.ins CW d (L2.dZ "signs" ↥s []))):=aG x _ _;have h2:(aN H1 x (.ins CW d (L2.dZ "signs" ↥s []))) x=⇑(.ins CW d [("signs",↥s)]):=af;generalize aN H1 x (.ins CW d (L2.dZ "signs" ↥s []))=H2 at k2 h2;have X0:s≠x:=(aA hx hs).symm;have b2:=k2 _ _ b1 X0;refine⟨gQ,λo ho=>?_⟩;have a3:aI H2 (aN H2 o (.lst [])):=ak ho _;have c3:(aN H2 o (.lst [])) o=⇑(.lst []):=af;generalize aN H2 o (.lst [])=H3 at a3 c3;refine⟨Y,x,CW,d,Y,a3 _ _ h2,D.gU.cl,D.sD,(by show 1<1000;decide),?_⟩;have k4:cz x H3 (aN H3 x (.ins CW d (L2.dZ "owners" ↥o [("signs",↥s)]))):=aG x _ _;have h4:(aN H3 x (.ins CW d (L2.dZ "owners" ↥o [("signs",↥s)]))) x=⇑(.ins CW d [("signs",↥s),("owners",↥o)]):=af;generalize aN H3 x (.ins CW d (L2.dZ "owners" ↥o [("signs",↥s)]))=H4 at k4 h4;have LP:o≠x:=(aA h2 ho).symm;have c4:=k4 _ _ c3 LP;have b4:=k4 _ _ (a3 _ _ b2) X0;intro p hp;have npx:p≠x:=(aA h4 hp).symm;refine⟨Y,x,CW,d,Y,ak hp _ _ _ h4,D.gU.cl,D.oO,(by show 2<1000;decide),?_⟩
 have k5:cz x H (aN (aN H4 p (.dK [])) x (.ins CW d (L2.dZ "pourings" ↥p [("signs",↥s),("owners",↥o)]))):=λa ob e n=>by
  rw[aL n];exact ak hp _ _ _ (k4 _ _ (a3 _ _ (k2 _ _ (a1 _ _ e) n)) n)
 refine k s o p _ ⟨.inl rfl,.inr (.inl rfl),.inr (.inr (.inl rfl)),.inr (.inr (.inr rfl)),λa z=>?_,af,?_,?_,aA b2 ho,[],?_,?_⟩ k5 hs ?_ ?_
 ·rcases z with rfl|rfl|rfl|rfl
  ·exact⟨_,af⟩
  ·exact⟨_,by rw[aL X0];exact ak hp _ _ _ b4⟩
  ·exact⟨_,by rw[aL LP];exact ak hp _ _ _ c4⟩
  ·exact⟨_,by rw[aL npx];exact af⟩
 ·rw[aL X0];exact ak hp _ _ _ b4
 ·rw[aL LP];exact ak hp _ _ _ c4
 ·rw[aL npx];exact af
 ·exact⟨λh v e=>(by cases e),λh e=>rfl,λh g v e=>(by cases e),fK _⟩
 ·exact aR a1 (gM k2 LP ho)
 ·exact aR a1 (gM k2 npx (aR a3 (gM k4 npx hp)))
theorem jN:‹(1,45,["self"],(TZ CW))›:=λD=>by
 specialize eS D.ML.F GI;let⟨x,d,s,o,p,aK,rfl,hx,hs,k⟩:=h;exists _,(au (aJ (gp D.T.gg (cC (pv 0) rfl))));exists Y,x,CW,d,_,↥s,rfl,hx,D.gU.cl,D.uT,rfl,s,Y,.inl (bG.of hs);rw[Ls];exact k
theorem Ej:‹(2,46,["self","hand","text"],(X8 CW))›:=λD=>by
 specialize eS D.aaX.F rQ;let⟨S,x,d,s,o,p,n,aK,h,cs,rfl,W,len,nn,k⟩:=h;have hu:=gT hr;exists _,(aj (aZ (i:=3) rQ.nd (fc (pv 0) D.gU D.ML (jN D) hr bC)) (aj (su (pv 0) (d9 (BA rfl) rfl D.T.iR tL (aa (pv 2) ah)) Jj) (aj (su (pv 0) (bz Ox (bL (aa (pv 1) ah)) (bY DE rfl D.T.gg PySem.boot_len (aa (pv 2) ah))) Jj) (aj (aZ (i:=4) rQ.nd (cH (aa (pv 3) (aa (fc (pv 0) D.gU D.ML (jN D) hr bC) ah)))) (aj (aT (dQ qF jV jW bS (O6 (cC (pv 0) rfl) (pv 1) (bL ah) ⟨K,K⟩) (aa (pv 4) ah))) (au (aJ (pv 4))))))));exists Y,x,d,Y,W.hx,rfl,x,d,s,o,p,aK,rfl,W.hx,W.hs;let⟨sx,ss,so,sp,al,hx,hs,ho,ne,kvs,hp,pw⟩:=id W;have nxs:x≠s:=cK hx hs;have nxo:x≠o:=cK hx ho;have nxp:x≠p:=cK hx hp;have nps:p≠s:=cK hp hs;have npo:p≠o:=cK hp ho;refine⟨Y,x,CW,d,_,↥s,rfl,hx,D.gU.cl,D.uT,rfl,Y,cs,rfl,gG (aQ ∅),λt ht=>?_⟩;have a1:aI H (aN H t (.lst (cs.map By))):=ak ht _;have b1:(aN H t (.lst (cs.map By))) t=⇑(.lst (cs.map By)):=af;generalize aN H t (.lst (cs.map By))=H1 at a1 b1;refine⟨s,t,Z,a1 _ _ hs,b1,(by rw[Ls,cB];exact gG (aQ ∅)),?_⟩;rw[← TU aK h cs];have k2:cz s H1 (aN H1 s (.lst (Nf (aK++qo h cs)))):=aG s _ _;have s2:(aN H1 s (.lst (Nf (aK++qo h cs)))) s=⇑(.lst (Nf (aK++qo h cs))):=af;generalize aN H1 s (.lst (Nf (aK++qo h cs)))=H2 at k2 s2;have k02:cz s H H2:=λa ob e m=>k2 _ _ (a1 _ _ e) m;have x2:=k02 _ _ hx nxs;refine⟨d,_,x2,(by show 3<1000;decide),?_⟩;have e3:aN H2 x (.ins CW d (L2.dZ "signs" ↥s ([("signs",↥s),("owners",↥o),("pourings",↥p)]:List (Str × V))))=H2:=P8 x2;rw[e3];refine⟨Y,x,CW,d,_,↥o,rfl,x2,D.gU.cl,D.sD,rfl,Y,ku,λt2 NN=>?_⟩;have a3:aI H2 (aN H2 t2 (.lst [.int h])):=ak NN _;have b3:(aN H2 t2 (.lst [.int h])) t2=⇑(.lst [.int h]):=af;generalize aN H2 t2 (.lst [.int h])=H3 at a3 b3;refine⟨Y,eT cs,rfl,(by rw[qd];exact gG (aQ ∅)),?_⟩;rw[qd];refine⟨t2,Z,b3,by lia,by lia,(by simp only[gV];exact gG (aQ ∅)),λt3 TQ=>?_⟩;rw[Int.toNat_natCast];have a4:aI H3 (aN H3 t3 (.lst (List.replicate ↑cs [V.int h]).flatten)):=ak TQ _;have b4:(aN H3 t3 (.lst (List.replicate ↑cs [V.int h]).flatten)) t3=⇑(.lst (List.replicate ↑cs [V.int h]).flatten):=af;generalize aN H3 t3 (.lst (List.replicate ↑cs [V.int h]).flatten)=H4 at a4 b4;have k04:cz s H H4:=λa ob e m=>a4 _ _ (a3 _ _ (k02 _ _ e m));refine⟨o,t3,Z,k04 _ _ ho ne.symm,b4,(by rw[TX,Ei,List.length_replicate];exact gG (aQ ∅)),?_⟩;rw[← TV aK h cs];have k5:cz o H4 (aN H4 o (.lst (II (aK++qo h cs)))):=aG o _ _;have o5:(aN H4 o (.lst (II (aK++qo h cs)))) o=⇑(.lst (II (aK++qo h cs))):=af;generalize aN H4 o (.lst (II (aK++qo h cs)))=H5 at k5 o5;have JL:∀ a ob,H a=⇑ob->a≠s->a≠o->H5 a=⇑ob:=λa ob e m m2=>k5 _ _ (k04 _ _ e m) m2;have x5:=JL _ _ hx nxs nxo;have s5:=k5 _ _ (a4 _ _ (a3 _ _ s2)) ne;refine⟨d,_,x5,(by show 3<1000;decide),?_⟩;have e5:aN H5 x (.ins CW d (L2.dZ "owners" ↥o ([("signs",↥s),("owners",↥o),("pourings",↥p)]:List (Str × V))))=H5:=P8 x5;rw[e5]
 have fr5:∀ q,H5 q=none->H q=none:=λq hq=>by
  cases e:H q with
  | none=>rfl
  | some ob =>
   by_cases z1:q=s
   ·rw[z1,s5]at hq;cases hq
   by_cases z2:q=o
   ·rw[z2,o5]at hq;cases hq
   rw[JL _ _ e z1 z2]at hq;cases hq
 exists Y,Y,x,d,Y,x5,rfl,x,d,s,o,p,Y,x5,s5;refine⟨oX,λq hq=>?_⟩;have a6:aI H5 (aN H5 q (.tup [.int (↑aK:Nat),.int (↑(aK++qo h cs):Nat)])):=ak hq _;have b6:(aN H5 q (.tup [.int (↑aK:Nat),.int (↑(aK++qo h cs):Nat)])) q=⇑(.tup [.int (↑aK:Nat),.int (↑(aK++qo h cs):Nat)]):=af;generalize aN H5 q (.tup [.int (↑aK:Nat),.int (↑(aK++qo h cs):Nat)])=H6 at a6 b6;have p6:=a6 _ _ (JL _ _ hp nps npo);have Ri:∀ q,H6 q=none->H q=none:=λq hq=>fr5 q (aR a6 hq);refine⟨Y,x,CW,d,_,↥p,rfl,a6 _ _ x5,D.gU.cl,D.oO,rfl,p,rfl,.inl ⟨_,.inl p6⟩,Y,gQ,λz hz=>?_⟩;have a7:aI H6 (aN H6 z (.lst [])):=ak hz _;have b7:(aN H6 z (.lst [])) z=⇑(.lst []):=af;generalize aN H6 z (.lst [])=H7 at a7 b7;have lp:=pw.len;refine⟨kvs,Sum.inl h,a7 _ _ p6,rfl,aQ ∅,λv hv=>?_,λhv=>?_⟩
 ·let⟨l,row,rfl,Sl,ls,lo,⟨as,hl,pa⟩,ok,sp1,rl⟩:=pw.got h v hv;have k07:∀ a ob,H a=⇑ob->a≠s->a≠o->H7 a=⇑ob:=λa ob e m m2=>a7 _ _ (a6 _ _ (JL _ _ e m m2));have l7:=k07 _ _ hl ls lo;have nxl:x≠l:=cK hx hl;have npl:p≠l:=cK hp hl;have la:=pa.len;refine⟨.inl ⟨rfl,_,bG.of l7⟩,Y,l,Z,l7,(by rw[cB];exact aQ ∅),?_⟩;have k8:cz l H7 (aN H7 l (.lst (as.map V.ref++[↥q]))):=aG l _ _;have l8:(aN H7 l (.lst (as.map V.ref++[↥q]))) l=⇑(.lst (as.map V.ref++[↥q])):=af;generalize aN H7 l (.lst (as.map V.ref++[↥q]))=H8 at k8 l8;have t07:∀ a xs,H a=⇑(.tup xs)->H7 a=⇑(.tup xs):=λa xs e=>k07 _ _ e (cK e hs) (cK e ho);have X9:∀ a xs,H7 a=⇑(.tup xs)->H8 a=⇑(.tup xs):=λa xs e=>k8 _ _ e (cK e l7);have s8:=k8 _ _ (a7 _ _ (a6 _ _ s5)) ls.symm;have o8:=k8 _ _ (a7 _ _ (a6 _ _ o5)) lo.symm;refine⟨Y,k S q H8 ⟨sx,ss,so,sp,λa z=>?_,k8 _ _ (a7 _ _ (a6 _ _ x5)) nxl,s8,o8,ne,kvs,k8 _ _ (a7 _ _ p6) npl,λg v e=>?_,λg e=>?_,pw.one,by lia⟩ (X9 _ _ (a7 _ _ b6)) (λa z=>.inl z) (λa ob e m=>?_) (λa xs e=>X9 _ _ (t07 _ _ e))⟩
  ·by_cases z1:a=s
   ·rw[z1];exact⟨_,s8⟩
   by_cases z2:a=o
   ·rw[z2];exact⟨_,o8⟩
   by_cases z3:a=l
   ·rw[z3];exact⟨_,l8⟩
   let⟨ob,e⟩:=al a z;exact⟨ob,k8 _ _ (k07 _ _ e z1 z2) z3⟩
  ·by_cases c:g=h
   ·subst c;rw[hv]at e;cases e;exists l,row++([(((↑aK:Nat):Int),((↑(aK++qo g cs):Nat):Int))]:Row),rfl,Sl,ls,lo,⟨as++[q],by rw[gE];exact l8,?_⟩,?_,?_
    ·exact bM.append (pa.tups λa xs e=>X9 _ _ (t07 _ _ e)) (.cons (b:=(((↑aK:Nat):Int),((↑(aK++qo g cs):Nat):Int))) (X9 _ _ (a7 _ _ b6)) .nil)
    ·intro r hr;rcases List.mem_append.mp hr with z|z
     ·exact ok r z
     ·rw[List.mem_singleton.mp z];show ((↑aK:Nat):Int)<=(↑(aK++qo g cs):Nat);rw[cT];lia
    ·rw[cZ,sp1,mU,xZ,Nat.zero_add];congr 1;refine AQ _ _ _ ?_;rw[cT,tF];lia
    ·rw[cT];simp only[gV];lia
   ·let⟨l',Ek,e1,e2,e3,e4,e5,e6,e7,e8⟩:=pw.got g v e;subst e1;have nl:l'≠l:=λz=>c (pw.one g h _ e (by rw[z];exact hv));refine⟨l',Ek,rfl,e2,e3,e4,e5.two (λxs q=>k8 _ _ (k07 _ _ q e3 e4) nl) (λa xs e=>X9 _ _ (t07 _ _ e)),e6,?_,by lia⟩;rw[e7,mU,mW (λz=>c z.symm),fV]
  ·have c:g≠h:=λz=>by rw[z,hv]at e;cases e
   rw[mU,pw.fT g e,mW (λz=>c z.symm),fV]
  ·have z1:a≠s:=λz=>m (by rw[z];exact ss);have z2:a≠o:=λz=>m (by rw[z];exact so);have z3:a≠l:=λz=>m (by rw[z];exact Sl);exact k8 _ _ (k07 _ _ e z1 z2) z3
 ·have fz:H z=none:=Ri z hz;have p7:=a7 _ _ p6;have k8:cz p H7 (aN H7 p (.dK (dc kvs (Sum.inl h) ↥z))):=aG p _ _;have p8:(aN H7 p (.dK (dc kvs (Sum.inl h) ↥z))) p=⇑(.dK (dc kvs (Sum.inl h) ↥z)):=af;generalize aN H7 p (.dK (dc kvs (Sum.inl h) ↥z))=H8 at k8 p8;have z8:=k8 _ _ b7 (cK b7 p7);refine⟨.inl ⟨rfl,_,bG.of z8⟩,Y,z,Z,z8,(by show 0<sizeLine;decide),?_⟩;have k9:cz z H8 (aN H8 z (.lst ([]++[↥q]))):=aG z _ _;have z9:(aN H8 z (.lst ([]++[↥q]))) z=⇑(.lst ([]++[↥q])):=af;generalize aN H8 z (.lst ([]++[↥q]))=H9 at k9 z9;have k69:∀ a ob,H6 a=⇑ob->a≠p->H9 a=⇑ob:=λa ob e m=>k9 _ _ (k8 _ _ (a7 _ _ e) m) (aA e hz);have k09:∀ a ob,H a=⇑ob->a≠s->a≠o->a≠p->H9 a=⇑ob:=λa ob e m m2 m3=>k69 _ _ (a6 _ _ (JL _ _ e m m2)) m3;have t69:∀ a xs,H6 a=⇑(.tup xs)->H9 a=⇑(.tup xs):=λa xs e=>k69 _ _ e (cK e p6);have t09:∀ a xs,H a=⇑(.tup xs)->H9 a=⇑(.tup xs):=λa xs e=>k09 _ _ e (cK e hs) (cK e ho) (cK e hp);have s9:=k69 _ _ (a6 _ _ s5) nps.symm;have o9:=k69 _ _ (a6 _ _ o5) npo.symm;have p9:=k9 _ _ p8 (cK p7 b7)
  have nz:∀ a,S a->a≠z:=λa sa=>by
   let⟨ob,e⟩:=al a sa;exact aA e fz
  refine⟨Y,k (λa=>S a\/a=z) q H9 ⟨.inl sx,.inl ss,.inl so,.inl sp,λa w=>?_,k69 _ _ (a6 _ _ x5) nxp,s9,o9,ne,_,p9,λg v e=>?_,λg e=>?_,λg g' v e e'=>?_,(by have:=gb kvs (Sum.inl h:dN) (V.ref z);lia)⟩ (t69 _ _ b6) (λa w=>w.imp id λy=>by rw[y];exact fz) (λa ob e m=>?_) (λa xs e=>t09 _ _ e)⟩
  ·rcases w with w|w
   ·by_cases z1:a=s
    ·rw[z1];exact⟨_,s9⟩
    by_cases z2:a=o
    ·rw[z2];exact⟨_,o9⟩
    by_cases z3:a=p
    ·rw[z3];exact⟨_,p9⟩
    let⟨ob,e⟩:=al a w;exact⟨ob,k09 _ _ e z1 z2 z3⟩
   ·rw[w];exact⟨_,z9⟩
  ·rw[kj]at e;by_cases c:g=h
   ·subst c;rw[if_pos rfl]at e;cases e;exists z,([(((↑aK:Nat):Int),((↑(aK++qo g cs):Nat):Int))]:Row),rfl,.inr rfl,(nz _ ss).symm,(nz _ so).symm,⟨[q],z9,.cons (t69 _ _ b6) .nil⟩,?_,?_
    ·intro r hr;rw[List.mem_singleton.mp hr];show ((↑aK:Nat):Int)<=(↑(aK++qo g cs):Nat);rw[cT];lia
    ·rw[mU,pw.fT g hv,xZ,Nat.zero_add,List.nil_append];refine AQ _ _ _ ?_;rw[cT,tF];lia
    ·simp only[gV];lia
   ·rw[if_neg (λz=>c (Sum.inl.inj z))]at e;let⟨l',Ek,e1,e2,e3,e4,e5,e6,e7,e8⟩:=pw.got g v e;subst e1;refine⟨l',Ek,rfl,.inl e2,e3,e4,e5.two (λxs q=>k09 _ _ q e3 e4 (cK q hp)) (λa xs e=>t09 _ _ e),e6,?_,by lia⟩;rw[e7,mU,mW (λz=>c z.symm),fV]
  ·rw[kj]at e;have c:g≠h:=λz=>by rw[z,if_pos rfl]at e;cases e
   rw[if_neg (λz=>c (Sum.inl.inj z))]at e;rw[mU,pw.fT g e,mW (λz=>c z.symm),fV]
  ·have AR:∀ g v,g≠h->cL kvs (Sum.inl g)=⇑v->v≠.ref z:=λg v c e y=>by
    let⟨l',Ek,e1,e2,_⟩:=pw.got g v e;rw[e1]at y;cases y;exact nz _ e2 rfl
   rw[kj]at e e';by_cases c:g=h
   ·by_cases c':g'=h
    ·rw[c,c']
    ·rw[c,if_pos rfl]at e;rw[if_neg (λz=>c' (Sum.inl.inj z))]at e';cases e;exact absurd rfl (AR _ _ c' e')
   ·rw[if_neg (λz=>c (Sum.inl.inj z))]at e;by_cases c':g'=h
    ·rw[c',if_pos rfl]at e';cases e';exact absurd rfl (AR _ _ c e)
    ·rw[if_neg (λz=>c' (Sum.inl.inj z))]at e';exact pw.one _ _ _ e e'
  ·have z1:a≠s:=λz=>m (by rw[z];exact ss);have z2:a≠o:=λz=>m (by rw[z];exact so);have z3:a≠p:=λz=>m (by rw[z];exact sp);exact k09 _ _ e z1 z2 z3
def GJ(xs:List V){p q:Int}(h:0<=p)(g:0<=q):ki xs (⇑p) (⇑q)=(xs.take q.toNat).drop p.toNat:=by
 unfold ki
 have e:∀ r:Int,0<=r->∀ d,HT.gC ↑xs d (⇑r)=min r.toNat ↑xs:=λr hr d=>by
  show (if r<0 then (r+(↑xs:Int)).toNat else min r.toNat ↑xs)=_;rw[if_neg ∅]
 rw[e p h,e q g,List.drop_take];rcases Nat.le_total p.toNat ↑xs with z|z
 ·rw[Nat.min_eq_left z];rcases Nat.le_total q.toNat ↑xs with y|y
  ·rw[Nat.min_eq_left y]
  ·rw[Nat.min_eq_right y,uv (by rw[qH];lia),uv (by rw[qH];lia)]
 ·rw[Nat.min_eq_right z,zF (fK _),zF z];simp
def Ro(n:Nat)(p:Int × Int):Bool:=decide (0<=p.1)&&decide (p.1<p.2)&&decide (p.2<=(n:Int))
def vh(n:Nat)(row:Row):Bool:=row.all (Ro n)
class inductive T3(C:Addr)
 | mk (S:Addr->Prop) (x d s o p r:Addr) (n:Nat) (aK:gD) (row:Row) (_:vs=[↥x,↥r]) (_:We C S H x d s o p n aK) (_:bW H r row) (_:↑row<=1000) (_: ∀ H',aI H H'->Q (.bl (vh ↑aK row)) H')
theorem El:aF ["self","row"] ["self","row"] (az ni):=eO
theorem BN:‹(2,47,["self","row"],(T3 CW))›:=λD=>by
 specialize eS D.aaY.F El;let⟨S,x,d,s,o,p,r,n,aK,row,rfl,W,R,len,k⟩:=h;refine⟨_,(au (aJ (bY (MD rfl) rfl D.T.aaG PyProof.Rows.boot_all (aa (gI (N:=["start","stop","self"]) (jI (sc:=az ni) (NX:=["self","row"]) (jx:=[none,none,some 0]) rfl rfl rfl nofun nofun rfl nofun rfl nofun) rfl (cu (pv 1)) (λ_ _ _ _ _ _=>(sR (n:=2) rfl (bP (bQ (i:=0) (show List.Nodup (["start","stop","self"]:List Str) by decide +kernel)) (bP (bQ (i:=1) (show List.Nodup (["start","stop","self"]:List Str) by decide +kernel)) fX)))) (λ_ _ _ _ _ _=>fZ) (λ_ _ _ _ _ _=>(ME fY jT fY ay (pv 0) (pv 1) (fc (pv 2) D.gU D.ML (jN D) hr bC)))) ah)))),?_⟩;let⟨as,hr1,pa⟩:=id R;have la:=pa.len;refine⟨Y,r,rfl,⟨_,bG.of hr1⟩,λacc cP=>fE (K:=K) (a:=r) (xs:=as.map V.ref) (λi σ H1=>∃ u w:Option V,σ=[u,w,⇑↥x]/\H1 acc=⇑(.lst (((row.take i).map (Ro ↑aK)).map V.bl))/\aI H H1) ⟨none,none,rfl,af,ak cP _⟩ (by rintro i σ H1 _ ⟨_,_,_,_,s⟩;exact bG.of (s _ _ hr1)) ?_ ?_⟩
 ·rintro i y σ H1 hi ⟨u,w,rfl,ha,s1⟩;rw[mY]at hi;let⟨t,et,rfl⟩:=Option.map_eq_some_iff.mp hi;let⟨q,eq,ht⟩:=Av pa et;have W1:=W.same s1;exists t,Y,cW.of (s1 _ _ ht),rfl,E,rfl,Z
  have iS:∀ v:Bool,Ro ↑aK q=v->∃ ys,H1 acc=⇑(.lst ys)/\↑ys<sizeLine/\∃ u w:Option V,[⇑(V.int q.1),⇑(V.int q.2),⇑↥x]=[u,w,⇑↥x]/\(aN H1 acc (.lst (ys++[.bl v]))) acc=⇑(.lst (((row.take (i+1)).map (Ro ↑aK)).map V.bl))/\aI H (aN H1 acc (.lst (ys++[.bl v]))):=λv hv=>by
   exists _,ha,?_,E,rfl,?_
   ·rw[cB,cB,gr];exact aQ ∅
   ·rw[af,take_snoc eq,gE,gE,← hv];rfl
   ·intro b ob e;rw[aL (aA e cP)];exact s1 _ _ e
  refine⟨Y,Z,Y,cR (λc1=>?_) (λc1=>iS false ?_)⟩
  ·refine⟨Y,Z,Y,cR (λc2=>?_) (λc2=>iS false ?_)⟩
   ·refine⟨Y,x,d,Y,W1.hx,rfl,x,d,s,o,p,aK,rfl,W1.hx,W1.hs,Z,iS _ ?_⟩;unfold Ro;rw[c1,c2];rfl
   ·unfold Ro;rw[c1,Bool.eq_false_iff.mpr c2];rfl
  ·unfold Ro;rw[Bool.eq_false_iff.mpr c1];rfl
 ·rintro σ H1 ⟨u,w,rfl,ha,s1⟩;rw[cB,la,gH]at ha;exists acc,Y,bG.of ha
  have e:(row.map (Ro ↑aK)).all id=vh ↑aK row:=by
   unfold vh;rw[List.all_map];rfl
  rw[e];exact k H1 s1
def Bq.irr{rows:cJ}(h:Bq rows){s:Int}:¬ Reach (gO rows) s s:=by
 let⟨rk,_,hr⟩:=h
 have key:∀ g,Reach (gO rows) s g->rk g<rk s:=by
  intro g r
  induction r with
  | one e=>exact hr _ _ e
  | step _ e ih=>exact Nat.lt_trans (hr _ _ e) ih
 exact λz=>Nat.lt_irrefl _ (key s z)
structure nE(rows:cJ)(f:Int->Int):Prop where
 len:↑rows<=100
 es:∀ es∈rows,↑es<=1000
 sd:gf rows
 rk:Bq rows
 wt:Weighs rows f
 most:∀ x:Int,0<=x->x<↑rows->f x<=200
class inductive P9
 | mk (r:Addr) (rows:cJ) (s:Int) (f:Int->Int) (_:vs=[↥r,.int s]) (_:gc H r (rows.map aC)) (_:nE rows f) (_:0<=s) (_:s<↑rows) (_: ∀ H',aI H H'->Q .fT H')
theorem j9:aF ["rows","sheet","way","weights","number"] ["rows","sheet"] (az pP):=eO
theorem AS:‹(4,48,["rows","sheet"],P9)›:=λD=>by
 refine eS D.aaZ.F j9 λcU A zn s0 H vs Q E hr h=>?_;let⟨r,rows,s,f,rfl,hR,B,h0,h1,k⟩:=h;have hu:=gT hr;let⟨Em,En⟩:=D.G.w;have bl:=B.len;exists _,(aj (aZ (i:=2) j9.nd (aH D.aaH (Tp D) hr (aa (pv 0) (aa (pv 1) ah)))) (aj (bO (zJ (Ky (pv 2))) (au iV) br) (aj (aZ (i:=3) j9.nd (aH D.aaJ (xP D) hr (aa (pv 0) (aa (d9 (t6 rfl) rfl D.T.iR tL (aa (d9 DP rfl D.T.jb PyProof.Rows.boot_range (aa (gp D.T.gg (pv 0)) ah)) ah)) ah)))) (au (dX PassesOwn.never rfl (iF rfl D.T.jb (aa (gp D.T.gg (pv 0)) ah)) (bQ (i:=4) j9.nd) (au (bO (aV Fq (kq hu (pv 3) (pv 4)) (Dw (v:=.int 200) rfl En ⟨Em,rfl⟩) (bh _)) (au iV) br)))))));refine⟨Y,Y,r,s,rfl,r,rows,s,s,rfl,hR,by lia,B.es,B.sd,h0,h1,(λPq o H' _ _ hw l2 _ hl=>absurd (by rw[List.getLast?_eq_getElem?,show Pq.length-1=(Pq.length-2)+1 by lia]at hl;exact hw.reach _ _ hl) B.rk.irr),λ_ H1 s1=>?_⟩;refine⟨Y,false,rfl,eL ?_⟩;have hR1:=hR.same s1;let⟨vs,hr1,al⟩:=id hR1;have lv:↑vs=↑rows:=by rw[al.len,cB]
 refine⟨Y,Y,r,Y,.inl (bG.of hr1),Y,λp1 YX=>⟨p1,E,rfl,af,⟨by lia,by lia,by lia,by lia⟩,gG (aQ ∅),λL hL=>?_⟩⟩;rw[Ag,lv,show ((↑rows:Int)-0).toNat=↑rows by lia];rw[lv]at hL;have s2:=s1.trans ((ak YX (.Fd 0 ((↑rows:Nat):Int))).trans (ak hL (.lst ((run 0 ↑rows).map V.int))));have hL2:(aN (aN H1 p1 (.Fd 0 ((↑rows:Nat):Int))) L (.lst ((run 0 ↑rows).map V.int))) L=⇑(.lst ((run 0 ↑rows).map V.int)):=af;generalize aN (aN H1 p1 (.Fd 0 ((↑rows:Nat):Int))) L (.lst ((run 0 ↑rows).map V.int))=H2 at s2 hL2;refine⟨r,L,rows,run 0 ↑rows,f,rfl,hR.same s2,hL2,by rw[vQ];lia,by lia,B.es,B.sd,B.rk,(λx hx=>by have:=Jh hx;lia),B.wt,λS kvs H3 hS hv s3 _=>?_⟩;have P5:=s2.trans s3;let⟨vs3,Jv,al3⟩:=hR.same P5;have lv3:↑vs3=↑rows:=by rw[al3.len,cB]
 refine⟨Y,r,Y,.inl (bG.of Jv),Y,by lia,by lia,?_⟩;refine oF (lo:=0) (n:=((↑vs3:Nat):Int).toNat) (λi σ H4=>∃ u:Option V,σ=[⇑↥r,⇑(.int s),some .fT,⇑↥S,u]/\aI H H4/\H4 S=⇑(.dK kvs)) ⟨none,rfl,P5,hS⟩ ?_ ?_
 ·rintro i σ H4 hi ⟨u,rfl,s4,hS4⟩;have il:i<↑rows:=by lia
  have z:=jj.k (k:=Sum.inl (0+(i:Int))) hS4;rw[hv (0+(i:Int)) (by rw[show (0:Int)+(i:Int)=0+i from rfl];exact nJ (DN 0 ↑rows i il))]at z;exists Y,Y,S,Y,z,Z,Y;rw[decide_eq_false (show ¬ f (0+(i:Int)) > 200 from λy=>by have:=B.most (0+(i:Int)) ∅ ∅;lia)];exact eL ⟨Y,s4,hS4⟩
 ·rintro σ H4 ⟨u,rfl,s4,_⟩;exact k H4 s4
structure gy(C CS:Addr)(S:Addr->Prop)(H:Hp)(x d wl sh bl kn du bk dS st op:Addr)(bN:lC)(ops:List Int)(aB:gW):Prop where
 hx:H x=⇑(.ins C d [("well",↥wl),("shelf",↥sh),("blots",↥bl),("knots",↥kn),("dues",↥du),("book",↥bk)])
 W:Sh CS S H sh dS st op bN ops
 hb:H bk=⇑(fJ aB)
 nx:¬ S x
 nb:¬ S bk
def Fr(S S':Addr->Prop)(bk:Addr)(H H':Hp):Prop:=(∀ a,S' a->S a\/H a=none)/\(∀ a ob,H a=⇑ob->¬ S a->a≠bk->H' a=⇑ob)/\∀ a xs,H a=⇑(.tup xs)->H' a=⇑(.tup xs)
theorem Fr.same{S S':Addr->Prop}{bk:Addr}{H0 H H':Hp}(s:aI H0 H)(f:Fr S S' bk H H'):Fr S S' bk H0 H' :=
 ⟨λa z=>(f.1 a z).imp id λy=>aR s y,λa ob e n1 n2=>f.2.1 a ob (s _ _ e) n1 n2,λa xs e=>f.2.2 a xs (s _ _ e)⟩
theorem gy.same{S:Addr->Prop}{H H':Hp}{x d wl sh bl du bk st:Addr}{bN:lC}{ops:List Int}{aB:gW}(L:gy C CS S H x d wl sh bl kn du bk dS st op bN ops aB)(s:aI H H'):gy C CS S H' x d wl sh bl kn du bk dS st op bN ops aB :=
 ⟨s _ _ L.hx,L.W.same s,s _ _ L.hb,L.nx,L.nb⟩
theorem gy.neb{S:Addr->Prop}{H:Hp}{x d wl sh bl du bk st:Addr}{bN:lC}{ops:List Int}{aB:gW}(L:gy C CS S H x d wl sh bl kn du bk dS st op bN ops aB):x≠bk:=λe=>by
 have z:=L.hx;rw[e,L.hb]at z;cases z
class inductive T4(C CS:Addr)
 | mk (S:Addr->Prop) (x d wl sh bl kn du bk dS st op:Addr) (bN:lC) (ops:List Int) (aB:gW) (_:vs=[↥x]) (_:gy C CS S H x d wl sh bl kn du bk dS st op bN ops aB) (_:Q (.int (↑ops:Nat)) H)
class inductive Lu(C CS:Addr)
 | mk (S:Addr->Prop) (x d wl sh bl kn du bk dS st op:Addr) (bN:lC) (ops:List Int) (aB:gW) (dd c:Addr) (e:jo) (cs:List Addr) (qy:List (Nat × List aS)) (last:List (List aS)) (_:vs=[↥x,↥dd,↥c]) (_:gy C CS S H x d wl sh bl kn du bk dS st op bN ops aB) (_:e.At H dd) (_:e.Ok) (_:H c=⇑(.lst (cs.map V.ref))) (_:c≠bk) (_:cj (JK H) cs qy) (_:(∀ a∈cs,∀ (s:Int) (r:Addr),H a=⇑(.tup [.int s,↥r])->r≠bk)) (_:bN.getLast?=⇑last) (_:X3 last qy) (_:↑qy<=200) (_:↑last<=500) (_:↑bN<=1000) (_:↑aB<=1000) (_ :
 ∀ (S':Addr->Prop) (H':Hp),gy C CS S' H' x d wl sh bl kn du bk dS st op (bN++[oA last qy]) (ops++List.replicate (↑(oA last qy)-↑last) ((↑bN:Nat):Int)) (aB++[e.line])->Fr S S' bk H H'->Q .fT H')
theorem yZ:aF ["self","deed","changes"] ["self","deed","changes"] (az mD):=eO
theorem AU:aF ["self"] ["self"] (az nO):=eO
theorem qz:‹(2,52,["self"],(T4 C CS))›:=λD=>by
 specialize eS D.Xu.F AU;let⟨S,x,d,wl,sh,bl,kn,du,bk,dS,st,op,bN,ops,aB,rfl,L,k⟩:=h;exists _,(au (aJ (fc (cC (pv 0) rfl) D.cN D.Xs (uh D) hr bC)));exact⟨Y,x,C,d,_,↥sh,rfl,L.hx,D.aM.cl,D.fQ,rfl,sh,dS,Y,L.W.hx,rfl,S,sh,dS,st,op,bN,ops,rfl,L.W,k⟩
theorem iL:‹(3,50,["self","deed","changes"],(Lu C CS))›:=λD=>by
 specialize eS D.Ph.F yZ;let⟨S,x,d,wl,sh,bl,kn,du,bk,dS,st,op,bN,ops,aB,dd,c,e,cs,qy,last,rfl,L,de,ok,hc,ncb,al,nr,hl,oc,l1,l2,l3,l4,k⟩:=h;exists _,(aj (aT (dQ qF jV jW bS (cC (pv 0) rfl) (aa (aH D.aaO (BK D) hr (aa (pv 1) ah)) ah))) (au (aT (cA (cC (pv 0) rfl) D.cN D.aaQ (BL D) hr bC (aa (pv 2) ah)))));refine⟨Y,x,C,d,_,↥bk,rfl,L.hx,D.aM.cl,D.Fz,rfl,.inl ⟨rfl,_,bG.of L.hb⟩,Y,dd,e,rfl,de,ok,JH ok,λH1 s1=>?_⟩;refine⟨bk,Z,s1 _ _ L.hb,aQ (by rw[cB];lia),?_⟩;have e2:(aB.map λw=>V.str (eT w))++[V.str (eT e.line)]=(aB++[e.line]).map λw=>V.str (eT w):=by rw[gE];rfl
 rw[e2]
 have k2:cz bk H (aN H1 bk (fJ (aB++[e.line]))):=λa o q n=>by
  rw[aL n];exact s1 _ _ q
 have U8:(aN H1 bk (fJ (aB++[e.line]))) bk=⇑(fJ (aB++[e.line])):=af
 have fr2:∀ a,(aN H1 bk (fJ (aB++[e.line]))) a=none->H a=none:=λa q=>by
  by_cases z:a=bk
  ·rw[z,af]at q;cases q
  ·rw[aL z]at q;exact aR s1 q
 generalize aN H1 bk (fJ (aB++[e.line]))=H2 at k2 U8 fr2;have t2:∀ a xs,H a=⇑(.tup xs)->H2 a=⇑(.tup xs):=λa xs q=>k2 _ _ q (cK q L.hb);have W2:Sh CS S H2 sh dS st op bN ops:=L.W.keep L.hb L.nb k2;have x2:=k2 _ _ L.hx L.neb;refine⟨Y,x,C,d,_,↥sh,rfl,x2,D.aM.cl,D.fQ,rfl,sh,dS,Y,W2.hx,rfl,Y,S,sh,dS,st,op,c,bN,ops,cs,qy,last,rfl,W2,k2 _ _ hc ncb,?_,hl,oc,l1,l2,l3,λS' H3 W3 sub fr tp=>?_⟩
 ·have key:∀ {as:List Addr} {ds:List (Nat × List aS)},cj (JK H) as ds->(∀ a∈as,a∈cs)->cj (JK H2) as ds:=by
   intro as ds q
   induction q with
   | nil=>intro _;exact .nil
   | cons o t ih =>
    intro sub;refine .cons ?_ (ih λa ha=>sub a (nI _ ha));let⟨r,ha,it⟩:=o;have nrb:=nr _ (sub _ wO) _ r ha;exact⟨r,t2 _ _ ha,it.fr (λxs q=>k2 _ _ q nrb) t2⟩
  exact key al λ_ z=>z
 ·refine k S' H3 ⟨fr _ _ x2 L.nx,W3,fr _ _ U8 L.nb,λz=>?_,λz=>?_⟩ ⟨λa z=>(sub a z).imp id λq=>fr2 a q,λa ob q n n'=>fr _ _ (k2 _ _ q n') n,λa xs q=>tp _ _ (t2 _ _ q)⟩
  ·rcases sub _ z with q|q
   ·exact L.nx q
   ·rw[x2]at q;cases q
  ·rcases sub _ z with q|q
   ·exact L.nb q
   ·rw[U8]at q;cases q
abbrev qO(pe:gS):lC:=pe.map λrows=>rows.map aC
def iM(rows:cJ)(s:Nat)(es:List Int):cJ:=rows.take s++[es]++rows.drop (s+1)
def T5(rows:cJ)(s:Nat)(es:List Int):oA (rows.map aC) [(s,aC es)]=(iM rows s es).map aC:=by
 show (rows.map aC).take s++[aC es]++(rows.map aC).drop (s+1)=_;unfold iM;rw[gE,gE,List.map_take,List.map_drop];rfl
def GK{rows:cJ}{s:Nat}{es:List Int}(h:s<=↑rows):↑(iM rows s es)=if s=↑rows then ↑rows+1 else ↑rows:=by
 unfold iM;rw[cT,cT,gr,qH];show min s ↑rows+1+_=_
 split <;> lia
def Qa(ops:List Int)(n s m:Nat):List Int:=ops++if s=n then [(m:Int)] else []
def Yb{rows:cJ}{s:Nat}{es:List Int}{ops:List Int}{m:Nat}(h:s<=↑rows):ops++List.replicate (↑((iM rows s es).map aC)-↑(rows.map aC)) (m:Int)=Qa ops ↑rows s m:=by
 rw[cB,cB,GK h];unfold Qa;by_cases c:s=↑rows
 ·rw[if_pos c,if_pos c,show ↑rows+1-↑rows=1 by lia];rfl
 ·rw[if_neg c,if_neg c,Nat.sub_self];rfl
class inductive GL(C CS:Addr)
 | mk (S:Addr->Prop) (x d wl sh bl kn du bk dS st op:Addr) (pe:gS) (ops:List Int) (aB:gW) (dd r:Addr) (e:jo) (s:Nat) (es:List Int) (rows:cJ) (f:Int->Int) (_:vs=[↥x,↥dd,.int (s:Nat),↥r]) (_:gy C CS S H x d wl sh bl kn du bk dS st op (qO pe) ops aB) (_:e.At H dd) (_:e.Ok) (_:bw H ↥r (aC es)) (_:r≠bk) (_:pe.getLast?=⇑rows) (_:s<=↑rows) (_:↑rows<=50) (_:↑pe<=900) (_:↑aB<=900) (_:nE (iM rows s es) f) (_ :
 ∀ (S':Addr->Prop) (H':Hp),gy C CS S' H' x d wl sh bl kn du bk dS st op (qO (pe++[iM rows s es])) (Qa ops ↑rows s ↑pe) (aB++[e.line])->Fr S S' bk H H'->Q .fT H')
theorem yc:aF ["self","deed","sheet","items"] ["self","deed","sheet","items"] (az kW):=eO
def jq{pe:gS}{rows:cJ}(h:pe.getLast?=⇑rows):(qO pe).getLast?=⇑(rows.map aC):=by
 rw[List.getLast?_map,h];rfl
def Qc{H H':Hp}{rs:List Addr}{rows:List (List aS)}{r:Addr}{aP:List aS}{s:Nat}(al:cj (λq i=>bw H' ↥q i) rs rows)(it:bw H' ↥r aP):cj (bw H') ((rs.map V.ref).take s++[↥r]++(rs.map V.ref).drop (s+1)) (rows.take s++[aP]++rows.drop (s+1)):=by
 have key:cj (bw H') (rs.map V.ref) rows:=by
  induction al with
  | nil=>exact .nil
  | cons o t ih=>exact .cons o ih
 exact ((key.take s).app (.cons it .nil)).app (key.drop (s+1))
theorem dP:‹(5,51,["self","deed","sheet","items"],(GL C CS))›:=λD=>by
 specialize eS D.Gg.F yc;let⟨S,x,d,wl,sh,bl,kn,du,bk,dS,st,op,pe,ops,aB,dd,r,e,s,es,rows,f,rfl,L,de,ok,hi,nrb,hl,sl,l1,l2,l3,B,k⟩:=h;have hl':=jq hl;have lp:↑(qO pe)=↑pe:=cB _
 have lo:↑ops=↑rows:=by
  let⟨last,z1,z2⟩:=L.W.Rn.Dh;rw[hl']at z1;cases z1;rw[z2,cB]
 exists _,(aj (aT (aH D.aaZ (AS D) hr (aa (aH D.Xr (AN D) hr (aa (fc (cC (pv 0) rfl) D.cN D.DZ (fj D) hr bC) (aa (pv 2) (aa (pv 3) ah)))) (aa (pv 2) ah)))) (au (aT (cA (pv 0) D.aM D.Ph (iL D) hr bC (aa (pv 1) (aa (bL (aa (cH (aa (pv 2) (aa (pv 3) ah))) ah)) ah))))));refine⟨Y,x,C,d,_,↥sh,rfl,L.hx,D.aM.cl,D.fQ,rfl,sh,dS,Y,L.W.hx,rfl,S,sh,dS,st,op,qO pe,ops,rfl,L.W,⟨by lia,by lia⟩,λrws el q H1 fs s1=>?_⟩;rw[hl']at el;cases el;let⟨fq,rs,hq,al⟩:=fs;have lr:↑rs=↑rows:=by rw[al.len,cB]
 have hi1:=hi.same s1;have L1:=L.same s1;refine⟨Y,Y,q,r,_,s,rfl,hq,by rw[cB,lr];exact sl,by rw[cB,lr];lia,λp2 H2 U0 s2 f2=>?_⟩
 refine⟨Y,p2,iM rows s es,(s:Int),f,rfl,⟨_,U0,?_⟩,B,by lia,by rw[GK sl];split <;> lia,λH3 s3=>?_⟩
 ·have z:=Qc (H:=H) (H':=H2) (s:=s) (al.mono λq' i' w'=>(w'.2.2).same s2) (hi1.same s2)
  have e':(rows.map aC).take s++[aC es]++(rows.map aC).drop (s+1)=(iM rows s es).map aC:=by
   unfold iM;rw[gE,gE,List.map_take,List.map_drop];rfl
  rw[e']at z;exact z
 have Bx:=s1.trans (s2.trans s3);have L3:=L.same Bx;refine⟨Y,x,d,Y,L3.hx,rfl,Y,Y,Y,oX,λt ht=>⟨ku,λc hc=>?_⟩⟩;have s4:aI H3 (aN (aN H3 t (.tup [.int (s:Nat),↥r])) c (.lst [↥t])):=(ak ht _).trans (ak hc _);have YY:(aN (aN H3 t (.tup [.int (s:Nat),↥r])) c (.lst [↥t])) t=⇑(.tup [.int (s:Nat),↥r]):=ak hc _ _ _ af;have hc4:(aN (aN H3 t (.tup [.int (s:Nat),↥r])) c (.lst [↥t])) c=⇑(.lst ([t].map V.ref)):=af
 have nc:c≠bk:=λz=>by
  have:=ak ht (.tup [.int (s:Nat),↥r]) _ _ L3.hb;rw[← z,hc]at this;cases this
 generalize aN (aN H3 t (.tup [.int (s:Nat),↥r])) c (.lst [↥t])=H4 at s4 YY hc4;have NU:=Bx.trans s4;refine⟨S,x,d,wl,sh,bl,kn,du,bk,dS,st,op,qO pe,ops,aB,dd,c,e,[t],[(s,aC es)],rows.map aC,rfl,L.same NU,de.same NU,ok,hc4,nc,.cons ⟨r,YY,hi.same NU⟩ .nil,?_,hl',?_,(by show 1<=200;decide),by rw[cB];lia,by lia,by lia,λS' H' L' fr=>?_⟩
 ·intro a ha s' r' e';rw[List.mem_singleton.mp ha,YY]at e';cases e';exact nrb
 ·intro i ch ei
  match i,ei with
  | 0,ei =>
   cases ei;show s<=↑(rows.map aC);rw[cB];exact sl
  | i+1,ei=>cases ei
 ·rw[T5,Yb sl,lp]at L';refine k S' H' ?_ (fr.same NU)
  have ep:qO (pe++[iM rows s es])=qO pe++[(iM rows s es).map aC]:=by
   show (pe++[iM rows s es]).map _=_;rw[gE];rfl
  rw[ep];exact L'
class inductive T6(C CS:Addr)
 | mk (S:Addr->Prop) (x d wl sh bl kn du bk dS st op:Addr) (pe:gS) (ops:List Int) (aB:gW) (dd r:Addr) (e:jo) (es:List Int) (rows:cJ) (_:vs=[↥x,↥dd,↥r]) (_:gy C CS S H x d wl sh bl kn du bk dS st op (qO pe) ops aB) (_:e.At H dd) (_:e.Ok) (_:bw H ↥r (aC es)) (_:r≠bk) (_:pe.getLast?=⇑rows) (_:↑rows<=50) (_:↑pe<=900) (_:↑aB<=900) (_:↑rows<40) (_:((∃ f,nE (rows++[es]) f)/\∀ (S':Addr->Prop) (H':Hp),gy C CS S' H' x d wl sh bl kn du bk dS st op (qO (pe++[rows++[es]])) (ops++[((↑pe:Nat):Int)]) (aB++[e.line])->Fr S S' bk H H'->Q (.int (↑rows:Nat)) H'))
theorem qA:aF ["self","deed","items","sheet"] ["self","deed","items"] (az mE):=eO
def GN(rows:cJ)(es:List Int):iM rows ↑rows es=rows++[es]:=by
 unfold iM;rw[gH,zF ∅,fV]
def wz{S:Addr->Prop}{H:Hp}{x d wl sh bl du bk st:Addr}{pe:gS}{ops:List Int}{aB:gW}{rows:cJ}(L:gy C CS S H x d wl sh bl kn du bk dS st op (qO pe) ops aB)(hl:pe.getLast?=⇑rows):↑ops=↑rows:=by
 let⟨last,z1,z2⟩:=L.W.Rn.Dh;rw[jq hl]at z1;cases z1;rw[z2,cB]
theorem yd:‹(6,53,["self","deed","items"],(T6 C CS))›:=λD=>by
 let⟨Eo,Ep⟩:=D.G.s;specialize eS D.aa1.F qA;let⟨S,x,d,wl,sh,bl,kn,du,bk,dS,st,op,pe,ops,aB,dd,r,e,es,rows,rfl,L,de,ok,hi,nrb,hl,l1,l2,l3,lt,k2⟩:=h;have lo:=wz L hl;exists _,(aj (aZ (i:=3) qA.nd (fc (pv 0) D.aM D.Xu (qz D) hr bC)) (aj (bO (aV UQ (pv 3) (Dw (v:=.int 40) rfl Ep ⟨Eo,rfl⟩) (bh _)) (au iV) br) (aj (aT (cA (pv 0) D.aM D.Gg (dP D) hr bC (aa (pv 1) (aa (pv 3) (aa (pv 2) ah))))) (au (aJ (pv 3))))));exists Y,x,d,Y,L.hx,rfl,S,x,d,wl,sh,bl,kn,du,bk,dS,st,op,qO pe,ops,aB,rfl,L;rw[lo];refine⟨Y,Z,Y,cR (λc=>?_) (λc=>?_)⟩
 ·exact absurd (of_decide_eq_true c) ∅
 ·let⟨⟨f,B⟩,k3⟩:=k2;refine⟨Y,x,d,Y,L.hx,rfl,Y,Y,Y,S,x,d,wl,sh,bl,kn,du,bk,dS,st,op,pe,ops,aB,dd,r,e,↑rows,es,rows,f,rfl,L,de,ok,hi,nrb,hl,fK _,l1,l2,l3,by rw[GN];exact B,λS' H' L' fr=>?_⟩;rw[GN]at L';have eo:Qa ops ↑rows ↑rows ↑pe=ops++[((↑pe:Nat):Int)]:=by unfold Qa;rw[if_pos rfl]
  rw[eo]at L';exact⟨Y,k3 S' H' L' fr⟩
abbrev frW:List Nat:=(Str.ofString "fresh").cps.toList
theorem Qd:(jo.plain frW []).Ok:=⟨by decide +kernel,λ_ z=>by cases z⟩
class inductive T7(C CS:Addr)
 | mk (S:Addr->Prop) (x d wl sh bl kn du bk dS st op:Addr) (pe:gS) (ops:List Int) (aB:gW) (rows:cJ) (_:vs=[↥x]) (_:gy C CS S H x d wl sh bl kn du bk dS st op (qO pe) ops aB) (_:pe.getLast?=⇑rows) (_:↑rows<=50) (_:↑pe<=900) (_:↑aB<=900) (_:↑rows<40) (_:((∃ f,nE (rows++[[]]) f)/\∀ (S':Addr->Prop) (H':Hp),gy C CS S' H' x d wl sh bl kn du bk dS st op (qO (pe++[rows++[[]]])) (ops++[((↑pe:Nat):Int)]) (aB++[(jo.plain frW []).line])->Fr S S' bk H H'->Q (.int (↑rows:Nat)) H'))
theorem y9:aF ["self"] ["self"] (az mF):=eO
theorem ye:‹(7,54,["self"],(T7 C CS))›:=λD=>by
 specialize eS D.Xv.F y9;let⟨S,x,d,wl,sh,bl,kn,du,bk,dS,st,op,pe,ops,aB,rows,rfl,L,hl,l1,l2,l3,lt,k2⟩:=h;exists _,(au (aJ (cA (pv 0) D.aM D.aa1 (yd D) hr bC (aa (cH (aa bI ah)) (aa (bL ah) ah)))));refine⟨Y,x,d,Y,L.hx,rfl,ku,λt ht=>⟨gQ,λr vt=>?_⟩⟩;have s1:aI H (aN (aN H t (.tup [.str "fresh"])) r (.lst [])):=(ak ht _).trans (ak vt _);have ht1:(aN (aN H t (.tup [.str "fresh"])) r (.lst [])) t=⇑(.tup [.str "fresh"]):=ak vt _ _ _ af;have hr1:(aN (aN H t (.tup [.str "fresh"])) r (.lst [])) r=⇑(.lst []):=af
 have nr:r≠bk:=λz=>by
  have:=ak ht (.tup [.str "fresh"]) _ _ L.hb;rw[← z,vt]at this;cases this
 generalize aN (aN H t (.tup [.str "fresh"])) r (.lst [])=H1 at s1 ht1 hr1;exists S,x,d,wl,sh,bl,kn,du,bk,dS,st,op,pe,ops,aB,t,r,.plain frW [],[],rows,rfl,L.same s1,by show H1 t=_;rw[ht1,qc];rfl,Qd,⟨r,[],rfl,hr1,.nil⟩,nr,hl,l1,l2,l3,lt;let⟨B,k3⟩:=k2;exact⟨B,λS' H' L' fr=>k3 S' H' L' (fr.same s1)⟩
theorem l9{H H1:Hp}{dw:Addr}{o:HO}(h1:H xw=none)(h2:H dw=none)(k:cz xw (aN (aN H dw (.own xw)) xw o) H1):aI H H1:=λa ob e=>k a ob (by rw[aL (aA e h1),aL (aA e h2)];exact e) (aA e h1)
theorem Sh.kL{S:Addr->Prop}{H H':Hp}{x d st:Addr}{bN:lC}{ops:List Int}{fs:List (Str × V)}(h:Sh C S H x d st op bN ops)(hl:H l=⇑(.ins C' d' fs))(nl:¬ S l)(k:cz l H H'):Sh C S H' x d st op bN ops :=
 h.fr (λa ob e z=>k a ob e (λq=>nl (by rw[← q];exact z))) (λa xs e=>k _ _ e (cK e hl))
structure Seen(rows:cJ)(sh:Int->List Int):Prop where
 es:∀ es∈rows,↑es<=1000
 sd:gf rows
 rk:Bq rows
 ss:kF rows sh
 ln:∀ x:Int,0<=x->x<↑rows->↑(sh x)<=10000
def TR.at_{H H':Hp}{q:Addr}{rows:List (List aS)}(h:TR H H' q rows):gc H' q rows:=by
 let⟨_,rs,hq,al⟩:=h;exists rs.map V.ref,hq
 have key:∀ {as:List Addr} {ds:List (List aS)},cj (λr aP=>H r=none/\r≠q/\bw H' ↥r aP) as ds->cj (bw H') (as.map V.ref) ds:=by
  intro as ds z
  induction z with
  | nil=>exact .nil
  | cons o t ih=>exact .cons o.2.2 ih
 exact key al
def gy.rws{S:Addr->Prop}{H:Hp}{x d wl sh bl du bk st:Addr}{pe:gS}{ops:List Int}{aB:gW}{rows:cJ}{Q:VK}{E:XK}(L:gy C CS S H x d wl sh bl kn du bk dS st op (qO pe) ops aB)(hl:pe.getLast?=⇑rows)(l1:↑rows<=50)(l2:↑pe<=900)(k:∀ (q:Addr) (H':Hp),gc H' q (rows.map aC)->aI H H'->Q ↥q H'):P7 CS [↥sh] H Q E:=by
 have lo:=wz L hl;have lp:↑(qO pe)=↑pe:=cB _;refine⟨S,sh,dS,st,op,qO pe,ops,rfl,L.W,⟨by lia,by lia⟩,λrws el q H1 fs s=>?_⟩;rw[jq hl]at el;cases el;exact k q H1 fs.at_ s
theorem gy.Yc{S:Addr->Prop}{H:Hp}{x d wl sh bl du bk st:Addr}{pe:gS}{ops:List Int}{aB:gW}{rows:cJ}{s:Int}{Q:VK}{E:XK}(L:gy C CS S H x d wl sh bl kn du bk dS st op (qO pe) ops aB)(hl:pe.getLast?=⇑rows)(ia:qM ↑rows s)(k:Q .fT H):Dj CS [↥sh,.int s] H Q E:=⟨S,sh,dS,st,op,qO pe,ops,s,rfl,L.W,by rw[wz L hl];exact ia,k⟩
class inductive Qe(C CS:Addr)
 | mk (S:Addr->Prop) (x d wl sh bl kn du bk dS st op:Addr) (pe:gS) (ops:List Int) (aB:gW) (rows:cJ) (s:Int) (_:vs=[↥x,.int s]) (_:gy C CS S H x d wl sh bl kn du bk dS st op (qO pe) ops aB) (_:pe.getLast?=⇑rows) (_:↑rows<=50) (_:↑pe<=900) (_:qM ↑rows s) (_:(∃ f,Seen rows f/\∀ (o:Addr) (H':Hp),bW H' o (cF (f s))->aI H H'->H o=none->Q ↥o H'))
theorem za:aF ["self","sheet"] ["self","sheet"] (az mG):=eO
theorem gz:‹(5,59,["self","sheet"],(Qe C CS))›:=λD=>by
 specialize eS D.MM.F za;let⟨S,x,d,wl,sh,bl,kn,du,bk,dS,st,op,pe,ops,aB,rows,s,rfl,L,hl,l1,l2,ia,k2⟩:=h;exists _,(aj (aT (cA (cC (pv 0) rfl) D.cN D.DY (cG D) hr bC (aa (pv 1) ah))) (au (aJ (fO.vR D.Pg (D.T.rJ _ D.Pg.m) (Gp D) hr (aa (fc (cC (pv 0) rfl) D.cN D.DZ (fj D) hr bC) (aa (pv 1) ah))))));refine⟨Y,x,C,d,_,↥sh,rfl,L.hx,D.aM.cl,D.fQ,rfl,sh,dS,Y,L.W.hx,rfl,Y,L.Yc hl ia ?_⟩;let⟨f0,sn,k3⟩:=k2;refine⟨Y,x,C,d,_,↥sh,rfl,L.hx,D.aM.cl,D.fQ,rfl,sh,dS,Y,L.W.hx,rfl,L.rws hl l1 l2 λq H1 T8 s1=>?_⟩;have hR:=T8;exact⟨Y,q,rows,s,f0,rfl,hR,by lia,sn.es,sn.sd,sn.rk,ia.1,ia.2,sn.ss,sn.ln,λo H2 ho s2 fo=>k3 o H2 ho (s1.trans s2) (aR s1 fo)⟩
theorem gy.fr{S:Addr->Prop}{H H':Hp}{x d wl sh bl du bk st:Addr}{bN:lC}{ops:List Int}{aB:gW}(L:gy C CS S H x d wl sh bl kn du bk dS st op bN ops aB)(k:∀ a ob,H a=⇑ob->(S a\/a=bk\/a=x)->H' a=⇑ob)(t:∀ a xs,H a=⇑(.tup xs)->H' a=⇑(.tup xs)):gy C CS S H' x d wl sh bl kn du bk dS st op bN ops aB :=
 ⟨k _ _ L.hx (.inr (.inr rfl)),L.W.fr (λa ob e z=>k a ob e (.inl z)) t,k _ _ L.hb (.inr (.inl rfl)),L.nx,L.nb⟩
abbrev Vl:=Row × Addr × Addr
structure wA(C CS CW CB:Addr)(U S SW:Addr->Prop)(H:Hp)(x d wl sh bl kn du bk dS st op dw sg ow pw db tb:Addr)(pe:gS)(ops:List Int)(aB:gW)(aK:gD)(nW:Nat)(bV:Vl):Prop where
 L:gy C CS S H x d wl sh bl kn du bk dS st op (qO pe) ops aB
 W:We CW SW H wl dw sg ow pw nW aK
 B:Bl CB H bl db tb
 R:bW H tb bV.1
 T9:Ris bV.1/\kn=bV.2.1/\du=bV.2.2
 dj:∀ a,SW a->¬ S a/\a≠bk/\a≠x
 db:¬ S bl/\¬ SW bl/\bl≠bk
 dt:¬ S tb/\¬ SW tb/\tb≠bk
 u:∀ a,U a↔S a\/SW a\/a=bk\/a=x\/a=bl\/a=tb
inductive m7(C CS CW CB:Addr)(U:Addr->Prop)(H:Hp)(x:Addr)(pe:gS)(aB:gW)(aK:gD)(nW:Nat)(bV:Vl):Prop
 | mk (S SW:Addr->Prop) (d wl sh bl kn du bk dS st op dw sg ow pw db tb:Addr) (ops:List Int) (_:wA C CS CW CB U S SW H x d wl sh bl kn du bk dS st op dw sg ow pw db tb pe ops aB aK nW bV)
def AV(U U':Addr->Prop)(H H':Hp):Prop:=(∀ a,U' a->U a\/H a=none)/\(∀ a ob,H a=⇑ob->¬ U a->H' a=⇑ob)/\∀ a xs,H a=⇑(.tup xs)->H' a=⇑(.tup xs)
theorem AV.same{U:Addr->Prop}{H H':Hp}(s:aI H H'):AV U U H H':=⟨λ_ z=>.inl z,λa ob e _=>s a ob e,λa xs e=>s _ _ e⟩
theorem AV.pre{U U':Addr->Prop}{H0 H H':Hp}(s:aI H0 H)(f:AV U U' H H'):AV U U' H0 H':=⟨λa z=>(f.1 a z).imp id λy=>aR s y,λa ob e n=>f.2.1 a ob (s _ _ e) n,λa xs e=>f.2.2 a xs (s _ _ e)⟩
def wA.fr{U S SW:Addr->Prop}{H H':Hp}{x d wl sh bl du bk st dw pw db:Addr}{pe:gS}{ops:List Int}{aB:gW}{aK:gD}{nW:Nat}{bV:Vl}(h:wA C CS CW CB U S SW H x d wl sh bl kn du bk dS st op dw sg ow pw db tb pe ops aB aK nW bV)(k:∀ a ob,H a=⇑ob->U a->H' a=⇑ob)(t:∀ a xs,H a=⇑(.tup xs)->H' a=⇑(.tup xs)):wA C CS CW CB U S SW H' x d wl sh bl kn du bk dS st op dw sg ow pw db tb pe ops aB aK nW bV:=by
 let⟨L,W,B,R,T9,dj,db',dt,u⟩:=h;refine⟨L.fr (λa ob e z=>k a ob e ((u a).mpr ?_)) t,W.fr (λa ob e z=>k a ob e ((u a).mpr (.inr (.inl z)))) t,k _ _ B ((u _).mpr (.inr (.inr (.inr (.inr (.inl rfl)))))),R.two (λxs e=>k _ _ e ((u _).mpr (.inr (.inr (.inr (.inr (.inr rfl))))))) t,T9,dj,db',dt,u⟩;rcases z with z|z|z
 ·exact .inl z
 ·exact .inr (.inr (.inl z))
 ·exact .inr (.inr (.inr (.inl z)))
theorem wA.same{U S SW:Addr->Prop}{H H':Hp}{x d wl sh bl du bk st dw pw db:Addr}{pe:gS}{ops:List Int}{aB:gW}{aK:gD}{nW:Nat}{bV:Vl}(h:wA C CS CW CB U S SW H x d wl sh bl kn du bk dS st op dw sg ow pw db tb pe ops aB aK nW bV)(s:aI H H'):wA C CS CW CB U S SW H' x d wl sh bl kn du bk dS st op dw sg ow pw db tb pe ops aB aK nW bV:=h.fr (λa ob e _=>s a ob e) λa xs e=>s _ _ e
def m7.fr{U:Addr->Prop}{H H':Hp}{x:Addr}{pe:gS}{aB:gW}{aK:gD}{nW:Nat}{bV:Vl}(h:m7 C CS CW CB U H x pe aB aK nW bV)(k:∀ a ob,H a=⇑ob->U a->H' a=⇑ob)(t:∀ a xs,H a=⇑(.tup xs)->H' a=⇑(.tup xs)):m7 C CS CW CB U H' x pe aB aK nW bV:=by
 let⟨S,SW,d,wl,sh,bl,kn,du,bk,dS,st,op,dw,sg,ow,pw,db,tb,ops,z⟩:=h;exact⟨S,SW,d,wl,sh,bl,kn,du,bk,dS,st,op,dw,sg,ow,pw,db,tb,ops,z.fr k t⟩
theorem m7.same{U:Addr->Prop}{H H':Hp}{x:Addr}{pe:gS}{aB:gW}{aK:gD}{nW:Nat}{bV:Vl}(h:m7 C CS CW CB U H x pe aB aK nW bV)(s:aI H H'):m7 C CS CW CB U H' x pe aB aK nW bV:=h.fr (λa ob e _=>s a ob e) λa xs e=>s _ _ e
def wA.wB{U S S' SW:Addr->Prop}{H H':Hp}{x d wl sh bl du bk st dw pw db:Addr}{pe Rp:gS}{ops JM:List Int}{aB dh:gW}{aK:gD}{nW:Nat}{bV:Vl}(h:wA C CS CW CB U S SW H x d wl sh bl kn du bk dS st op dw sg ow pw db tb pe ops aB aK nW bV)(L':gy C CS S' H' x d wl sh bl kn du bk dS st op (qO Rp) JM dh)(fr:Fr S S' bk H H'):∃ U',m7 C CS CW CB U' H' x Rp dh aK nW bV/\AV U U' H H':=by
 let⟨L,W,B,R,T9,dj,db',dt,u⟩:=h;let⟨as,hR,_⟩:=id R
 have nS':∀ a ob,H a=⇑ob->¬ S a->¬ S' a:=λa ob e n z=>by
  rcases fr.1 a z with y|y
  ·exact n y
  ·rw[e]at y;cases y
 refine⟨λa=>S' a\/SW a\/a=bk\/a=x\/a=bl\/a=tb,⟨S',SW,d,wl,sh,bl,kn,du,bk,dS,st,op,dw,sg,ow,pw,db,tb,JM,L',W.fr (λa ob e z=>fr.2.1 _ _ e (dj a z).1 (dj a z).2.1) fr.2.2,fr.2.1 _ _ B db'.1 db'.2.2,R.two (λxs e=>fr.2.1 _ _ e dt.1 dt.2.2) fr.2.2,T9,λa z=>?_,⟨nS' _ _ B db'.1,db'.2⟩,⟨nS' _ _ hR dt.1,dt.2⟩,λa=>Iff.rfl⟩,λa z=>?_,λa ob e n=>?_,fr.2.2⟩
 ·let⟨ob,e⟩:=W.al a z;exact⟨nS' _ _ e (dj a z).1,(dj a z).2⟩
 ·rcases z with z|z
  ·exact (fr.1 a z).imp (λy=>(u a).mpr (.inl y)) id
  ·exact .inl ((u a).mpr (.inr z))
 ·exact fr.2.1 a ob e (λz=>n ((u a).mpr (.inl z))) (λz=>n ((u a).mpr (.inr (.inr (.inl z)))))
theorem fnN:∀ y∈([]:List Int),rN y:=λ_ z=>by cases z
theorem Ia{x:Int}{l:List Int}(a:0<=x)(b:x<10^60)(g:∀ y∈l,rN y):∀ y∈x::l,rN y:=λy z=>(List.mem_cons.mp z).elim (λe=>by rw[e];exact⟨a,b⟩) (g y)
def wA.chg{U S SW:Addr->Prop}{H H3:Hp}{x d wl sh bl du bk st dw pw db t q2:Addr}{pe:gS}{ops:List Int}{aB:gW}{aK:gD}{nW:Nat}{bV:Vl}{rows:cJ}{nm:Str}{n:List Nat}{ns es:List Int}{s:Int}{Q:VK}{E:XK}(LU:wA C CS CW CB U S SW H x d wl sh bl kn du bk dS st op dw sg ow pw db tb pe ops aB aK nW bV)(sm:aI H H3)(ht:H3 t=⇑(.tup (.str nm::ns.map V.int)))(hn:nm=eT n)(hk:kK PX n=⇑(↑ns:Int))(hf:∀ y∈ns,rN y)(hq:bw H3 ↥q2 (aC es))(fq:H q2=none)(hl:pe.getLast?=⇑rows)(l1:↑rows<=50)(l2:↑pe<=900)(l3:↑aB<=900)(ia:qM ↑rows s)(B:∃ f,nE (iM rows s.toNat es) f)(k:∀ (U':Addr->Prop) (H':Hp),m7 C CS CW CB U' H' x (pe++[iM rows s.toNat es]) (aB++[(jo.plain n ns).line]) aK nW bV->AV U U' H H'->Q .fT H'):GL C CS [↥x,↥t,.int s,↥q2] H3 Q E:=by
 subst hn;have i1:=ia.1;have i2:=ia.2;have ss:((s.toNat:Nat):Int)=s:=by lia
 let⟨fB,B⟩:=B;refine⟨S,x,d,wl,sh,bl,kn,du,bk,dS,st,op,pe,ops,aB,t,q2,.plain n ns,s.toNat,es,rows,fB,by rw[ss],(LU.same sm).L,ht,⟨hk,hf⟩,hq,(λe=>by have:=LU.L.hb;rw[← e,fq]at this;cases this),hl,by lia,l1,l2,l3,B,λS' H8 L8 NK=>?_⟩;let⟨U',hL',f'⟩:=(LU.same sm).wB L8 NK;exact k U' H8 hL' (f'.pre sm)
class inductive Ua(C CS CW CB:Addr)
 | mk (U:Addr->Prop) (x:Addr) (pe:gS) (aB:gW) (aK:gD) (nW:Nat) (bV:Vl) (h:Int) (cs:List Nat) (rows:cJ) (_:vs=[↥x,.int h,.str (eT cs)]) (_:m7 C CS CW CB U H x pe aB aK nW bV) (_:rN h) (_:↑cs<=200) (_:↑aK<=90000) (_:nW<=900) (_:pe.getLast?=⇑rows) (_:↑rows<=50) (_:↑pe<=900) (_:↑aB<=900) (_ :
 ∀ (U':Addr->Prop) (q:Addr) (H':Hp),m7 C CS CW CB U' H' x (pe++[rows]) (aB++[(jo.BJ h cs).line]) (aK++qo h cs) (nW+1) bV->AV U U' H H'->H' q=⇑(.tup [.int (↑aK:Nat),.int (↑(aK++qo h cs):Nat)])->Q ↥q H')
theorem rR:aF ["self","hand","text","stretch"] ["self","hand","text"] (az nP):=eO
theorem qB:‹(4,57,["self","hand","text"],(Ua C CS CW CB))›:=λD=>by
 specialize eS D.Td.F rR;let⟨U,x,pe,aB,aK,nW,bV,h,cs,rows,rfl,⟨S,SW,d,wl,sh,bl,kn,du,bk,dS,st,op,dw,sg,ow,pw,db,tb,ops,LU⟩,fh,lc,li,ln,hl,l1,l2,l3,k⟩:=h;let⟨L,W,B,R,T9,dj,db',dt,u⟩:=id LU;exists _,(aj (aZ (i:=3) rR.nd (cA (cC (pv 0) rfl) D.gU D.aaX (Ej D) hr bC (aa (pv 1) (aa (pv 2) ah)))) (aj (aT (cA (pv 0) D.aM D.Ph (iL D) hr bC (aa (cH (aa bI (aa (pv 1) (aa (pv 2) ah)))) (aa (bL ah) ah)))) (au (aJ (pv 3)))));refine⟨Y,x,C,d,_,↥wl,rfl,L.hx,D.aM.cl,D.vI,rfl,wl,dw,Y,W.hx,rfl,Y,Y,SW,wl,dw,sg,ow,pw,nW,aK,h,cs,rfl,W,by lia,by lia,λYd q H1 W1 hq sub fr tp=>?_⟩
 have nSW:∀ a ob,H a=⇑ob->¬ SW a->¬ Yd a:=λa ob e n z=>by
  rcases sub a z with y|y
  ·exact n y
  ·rw[e]at y;cases y
 have nk1:∀ a ob,H a=⇑ob->(S a\/a=bk\/a=x)->¬ SW a:=λa ob e z y=>by
  let⟨y1,y2,y3⟩:=dj a y;rcases z with z|z|z
  ·exact y1 z
  ·exact y2 z
  ·exact y3 z
 have L1:gy C CS S H1 x d wl sh bl kn du bk dS st op (qO pe) ops aB:=L.fr (λa ob e z=>fr _ _ e (nk1 a ob e z)) tp;let⟨as,hR,_⟩:=id R
 have LU1:wA C CS CW CB (λa=>S a\/Yd a\/a=bk\/a=x\/a=bl\/a=tb) S Yd H1 x d wl sh bl kn du bk dS st op dw sg ow pw db tb pe ops aB (aK++qo h cs) (nW+1) bV:=by
  refine⟨L1,W1,fr _ _ B db'.2.1,R.two (λxs e=>fr _ _ e dt.2.1) tp,T9,λa z=>?_,⟨db'.1,nSW _ _ B db'.2.1,db'.2.2⟩,⟨dt.1,nSW _ _ hR dt.2.1,dt.2.2⟩,λa=>Iff.rfl⟩;rcases sub a z with y|y
  ·exact dj a y
  ·refine⟨λq'=>?_,λq'=>?_,λq'=>?_⟩
   ·let⟨ob,e⟩:=L.W.al a q';rw[y]at e;cases e
   ·rw[q',L.hb]at y;cases y
   ·rw[q',L.hx]at y;cases y
 refine⟨Y,x,d,Y,L1.hx,rfl,Y,Y,F9,λt ht=>⟨gQ,λc hc=>?_⟩⟩;have s2:aI H1 (aN (aN H1 t (.tup [.str "pour",.int h,.str (eT cs)])) c (.lst [])):=(ak ht _).trans (ak hc _);have NN:(aN (aN H1 t (.tup [.str "pour",.int h,.str (eT cs)])) c (.lst [])) t=⇑(.tup [.str "pour",.int h,.str (eT cs)]):=ak hc _ _ _ af;have HZ:(aN (aN H1 t (.tup [.str "pour",.int h,.str (eT cs)])) c (.lst [])) c=⇑(.lst (([]:List Addr).map V.ref)):=af
 have nc:c≠bk:=λz=>by
  have:=ak ht (.tup [.str "pour",.int h,.str (eT cs)]) _ _ L1.hb;rw[← z,hc]at this;cases this
 generalize aN (aN H1 t (.tup [.str "pour",.int h,.str (eT cs)])) c (.lst [])=H2 at s2 NN HZ;have lp:↑(qO pe)=↑pe:=cB _;have wC:=LU1.same s2;refine⟨S,x,d,wl,sh,bl,kn,du,bk,dS,st,op,qO pe,ops,aB,t,c,.BJ h cs,[],[],rows.map aC,rfl,wC.L,NN,⟨fh,lc⟩,HZ,nc,.nil,(λ_ z=>by cases z),jq hl,(λi ch e=>by cases e),(by show 0<=200;decide),by rw[cB];lia,by lia,by lia,λS' H3 L3 E5=>?_⟩
 have ep:qO pe++[oA (rows.map aC) []]=qO (pe++[rows]):=by
  show _=(pe++[rows]).map _;rw[gE];rfl
 have eo:ops++List.replicate (↑(oA (rows.map aC) [])-↑(rows.map aC)) ((↑(qO pe):Nat):Int)=ops:=by
  show ops++List.replicate (↑(rows.map aC)-↑(rows.map aC)) _=ops;rw[Nat.sub_self];exact fV _
 rw[ep,eo]at L3;let⟨U',hL',f'⟩:=wC.wB L3 E5;refine⟨Y,k U' q H3 hL' ⟨λa z=>?_,λa ob e n=>?_,λa xs e=>f'.2.2 _ _ (s2 _ _ (tp _ _ e))⟩ (f'.2.2 _ _ (s2 _ _ hq))⟩
 ·rcases f'.1 a z with y|y
  ·rcases y with y|y|y
   ·exact .inl ((u a).mpr (.inl y))
   ·exact (sub a y).imp (λw=>(u a).mpr (.inr (.inl w))) id
   ·exact .inl ((u a).mpr (.inr (.inr y)))
  ·have y1:=aR s2 y
   cases e:H a with
   | none=>exact .inr rfl
   | some ob =>
    by_cases z2:SW a
    ·exact .inl ((u a).mpr (.inr (.inl z2)))
    ·rw[fr _ _ e z2]at y1;cases y1
 ·have n1:¬ SW a:=λz=>n ((u a).mpr (.inr (.inl z)));refine f'.2.1 a ob (s2 _ _ (fr _ _ e n1)) λz=>?_;rcases z with z|z|z
  ·exact n ((u a).mpr (.inl z))
  ·exact nSW _ _ e n1 z
  ·exact n ((u a).mpr (.inr (.inr z)))
class inductive GO(C CS CW CB:Addr)
 | mk (U:Addr->Prop) (x:Addr) (pe:gS) (aB:gW) (aK:gD) (nW:Nat) (bV:Vl) (_:vs=[↥x]) (_:m7 C CS CW CB U H x pe aB aK nW bV) (_:Q (.int (↑aK:Nat)) H)
class inductive GP(C CS CW CB:Addr)
 | mk (U:Addr->Prop) (x r:Addr) (pe:gS) (aB:gW) (aK:gD) (nW:Nat) (bV:Vl) (row:Row) (_:vs=[↥x,↥r]) (_:m7 C CS CW CB U H x pe aB aK nW bV) (_:bW H r row) (_:↑row<=1000) (_:vh ↑aK row=true) (_:∀ H',aI H H'->Q .fT H')
theorem BO:aF ["self"] ["self"] (az pQ):=eO
theorem rS:aF ["self","row"] ["self","row"] (az iP):=eO
theorem AW:‹(2,55,["self"],(GO C CS CW CB))›:=λD=>by
 specialize eS D.afc.F BO;let⟨U,x,pe,aB,aK,nW,bV,rfl,⟨S,SW,d,wl,sh,bl,kn,du,bk,dS,st,op,dw,sg,ow,pw,db,tb,ops,LU⟩,k⟩:=h;exists _,(au (aJ (fc (cC (pv 0) rfl) D.gU D.ML (jN D) hr bC)));exact⟨Y,x,C,d,_,↥wl,rfl,LU.L.hx,D.aM.cl,D.vI,rfl,wl,dw,Y,LU.W.hx,rfl,wl,dw,sg,ow,pw,aK,rfl,LU.W.hx,LU.W.hs,k⟩
theorem gR:‹(3,56,["self","row"],(GP C CS CW CB))›:=λD=>by
 have Ub:bq P w K mg zt cO 2 _ _ E9 (GO C CS CW CB):=AW D;specialize eS D.Tc.F rS;let⟨U,x,r,pe,aB,aK,nW,bV,row,rfl,LB,hr1,lr,g,k1⟩:=h;let⟨S,SW,d,wl,sh,bl,kn,du,bk,dS,st,op,dw,sg,ow,pw,db,tb,ops,LU⟩:=id LB;exists _,(au (bO (jd (jz (cA (cC (pv 0) rfl) D.gU D.aaY (BN D) hr bC (aa (pv 1) ah)))) (au iV) br));refine⟨Y,x,C,d,_,↥wl,rfl,LU.L.hx,D.aM.cl,D.vI,rfl,wl,dw,Y,LU.W.hx,rfl,Y,SW,wl,dw,sg,ow,pw,r,nW,aK,row,rfl,LU.W,hr1,lr,λH1 s1=>⟨Y,?_⟩⟩;rw[g];exact eL (k1 H1 s1)
abbrev ptW:List Nat:=(Str.ofString "put").cps.toList
class inductive Uc(C CS CW CB:Addr)
 | mk (U:Addr->Prop) (x r:Addr) (pe:gS) (aB:gW) (aK:gD) (nW:Nat) (bV:Vl) (row:Row) (s p:Int) (rows:cJ) (_:vs=[↥x,.int s,.int p,↥r]) (_:m7 C CS CW CB U H x pe aB aK nW bV) (_:bW H r row) (_:JG row) (_:↑aK<=100000) (_:pe.getLast?=⇑rows) (_:↑rows<=50) (_:↑pe<=900) (_:↑aB<=900) (_:wN s) (_:wN p) (_:qM ↑rows s) (_:vh ↑aK row=true) (_:(∃ sh,Seen rows sh/\(0<=p/\p<=↑(sh s))/\((∀ es,rows[s.toNat]?=⇑es->(∃ f,nE (iM rows s.toNat (fH sh p es (dF (cQ (cy row))))) f)/\
  ∀ (U':Addr->Prop) (H':Hp),m7 C CS CW CB U' H' x (pe++[iM rows s.toNat (fH sh p es (dF (cQ (cy row))))]) (aB++[(jo.ug ptW [s,p] row).line]) aK nW bV->AV U U' H H'->Q .fT H'))))
theorem um:aF ["self","sheet","place","row","items"] ["self","sheet","place","row"] (az pR):=eO
def Dk(ns:List Int):i7 (cF ns)=(↑ns:Int):=by rw[← sH _ (jH _),dz]
theorem Ng{n:Nat}{row:Row}(h:vh n row=true):∀ p∈row,0<=p.1/\p.1<p.2/\p.2<=n:=λp hp=>by
 have z:=List.all_eq_true.mp h p hp;unfold Ro at z;simpa [and_assoc] using z
def wN.big{s:Int}(h:wN s):s<10^60:=by
 let⟨_,h1⟩:=h;lia
theorem AX:‹(6,58,["self","sheet","place","row"],(Uc C CS CW CB))›:=λD=>by
 refine eS D.aa2.F um λcU A zn s0 H vs Q E hr h=>?_;let⟨U,x,r,pe,aB,aK,nW,bV,row,s,p,rows,rfl,LB,hr1,fr,li,hl,l1,l2,l3,fs,fp,ia,g,k2⟩:=h;let⟨S,SW,d,wl,sh,bl,kn,du,bk,dS,st,op,dw,sg,ow,pw,db,tb,ops,LU⟩:=id LB;exists _,(aj (aT (aH D.YR (gK D) hr (aa (cA (pv 0) D.aM D.MM (gz D) hr bC (aa (pv 1) ah)) (aa (pv 2) (aa (pv 2) ah))))) (aj (aT (cA (pv 0) D.aM D.Tc (gR D) hr bC (aa (pv 3) ah))) (aj (aZ (i:=4) um.nd (aH D.SX (qj D) hr (aa (fc (cC (pv 0) rfl) D.cN D.DZ (fj D) hr bC) (aa (pv 1) (aa (pv 2) (aa (aH D.Gf (mR D) hr (aa (pv 3) ah)) ah)))))) (au (aT (cA (pv 0) D.aM D.Gg (dP D) hr bC (aa (cH (aa bI (aa (pv 1) (aa (pv 2) (aa (pv 3) ah))))) (aa (pv 1) (aa (pv 4) ah)))))))));exists Y,x,d,Y,LU.L.hx,rfl,Y,S,x,d,wl,sh,bl,kn,du,bk,dS,st,op,pe,ops,aB,rows,s,rfl,LU.L,hl,l1,l2,ia;let⟨f0,sn,hpp,k6⟩:=k2;have ls:↑(f0 s)<=10000:=sn.ln s ia.1 ia.2;have lr0:=j5 (f0 s);refine⟨f0,sn,λo H1 ho s1 fo=>?_⟩;have z:Sw p p (i7 (cF (f0 s))):=by rw[Dk];exact⟨hpp.1,Int.le_refl _,hpp.2⟩
 refine⟨Y,Y,o,cF (f0 s),p,p,rfl,ho,by lia,z,λH2 s2=>?_⟩;have mZ:=s1.trans s2;have wC:=LU.same mZ;have Ju:=hr1.same mZ;refine⟨Y,x,d,Y,wC.L.hx,rfl,Y,U,x,r,pe,aB,aK,nW,bV,row,rfl,LB.same mZ,Ju,by have:=fr.1;lia,g,λH3 s3=>?_⟩;have Bx:=mZ.trans s3;have NV:=LU.same Bx;have Jv:=hr1.same Bx;have hp:=Ng g;have sl:s.toNat<↑rows:=by have:=ia.1;have:=ia.2;lia
 obtain⟨es,es1⟩:∃ es,rows[s.toNat]?=⇑es:=⟨_,tK sl⟩;let⟨⟨fB,B⟩,k7⟩:=k6 _ es1;refine⟨Y,x,C,d,_,↥sh,rfl,NV.L.hx,D.aM.cl,D.fQ,rfl,sh,dS,Y,NV.L.W.hx,rfl,NV.L.rws hl l1 l2 λq H4 fs4 s4=>?_⟩;have hR:=fs4;have hr4:=Jv.same s4;refine⟨Y,Y,Y,r,row,rfl,hr4,by have:=fr.1;lia,λoi H5 hoi s5 foi=>?_⟩;have nn:lI row:=λp' NL=>⟨(hp p' NL).1,by have:=(hp p' NL).2.1;lia⟩;refine⟨q,oi,rows,s,p,_,f0,rfl,⟨hR.same s5,by lia,sn.es,sn.sd,sn.rk,sn.ss,sn.ln⟩,ia.1,ia.2,hoi,vZ (oW nn),?_,hpp,λes q2 H6 o7 eN s6 Qf=>?_⟩
 ·unfold cQ;rw[cB];have:=lY row;have:=fr.1;lia
 rw[es1]at o7;cases o7;have s16:aI H H6:=Bx.trans (s4.trans (s5.trans s6));have LU6:=LU.same s16
 have nq2:q2≠bk:=λe=>by
  have y:=(LU.same (Bx.trans (s4.trans s5))).L.hb;rw[← e,Qf]at y;cases y
 refine⟨Y,x,d,Y,LU6.L.hx,rfl,Y,Y,Y,DU,λt ht=>?_⟩;have s7:=ak ht (.tup [.str "put",.int s,.int p,↥r]);have ht7:(aN H6 t (.tup [.str "put",.int s,.int p,↥r])) t=⇑(.tup [.str "put",.int s,.int p,↥r]):=af;generalize aN H6 t (.tup [.str "put",.int s,.int p,↥r])=H7 at s7 ht7;have s17:=s16.trans s7;have LU7:=LU.same s17;have ss:((s.toNat:Nat):Int)=s:=by have:=ia.1;lia
 refine⟨Y,Y,S,x,d,wl,sh,bl,kn,du,bk,dS,st,op,pe,ops,aB,t,q2,.ug ptW [s,p] row,s.toNat,_,rows,fB,by rw[ss];rfl,LU7.L,⟨r,by rw[ht7,qc];rfl,hr1.same s17⟩,⟨(by show kK AHD ptW=some 2;decide +kernel),?_,fr⟩,eN.same s7,nq2,hl,by have:=ia.2;have:=ia.1;lia,l1,l2,l3,B,λS' H8 L8 NK=>?_⟩
 ·intro y hy;have b1:=ia.1;have b2:=hpp.1;rcases List.mem_cons.mp hy with e|e
  ·rw[e];exact⟨b1,fs.big⟩
  ·rw[List.mem_singleton.mp e];exact⟨b2,fp.big⟩
 ·let⟨U',hL',f'⟩:=LU7.wB L8 NK;exact k7 U' H8 hL' (f'.pre s17)
theorem We.kL{S:Addr->Prop}{H H':Hp}{x d s p:Addr}{n:Nat}{aK:gD}{fs:List (Str × V)}(h:We C S H x d s o p n aK)(hl:H l=⇑(.ins C' d' fs))(nl:¬ S l)(k:cz l H H'):We C S H' x d s o p n aK :=
 h.fr (λa ob e z=>k a ob e (λq=>nl (by rw[← q];exact z))) (λa xs e=>k _ _ e (cK e hl))
theorem bW.kL{H H':Hp}{r:Addr}{row:Row}{fs:List (Str × V)}(h:bW H r row)(hl:H l=⇑(.ins C' d' fs))(k:cz l H H'):bW H' r row :=
 h.two (λxs e=>k _ _ e (cK e hl)) (λa xs e=>k _ _ e (cK e hl))
def jr{H:Hp}{dw a:Addr}{o:HO}(e:(aN (aN H dw (.own xw)) xw o) a=none):H a=none:=by
 by_cases z1:a=xw
 ·rw[z1,af]at e;cases e
 rw[aL z1]at e;by_cases z2:a=dw
 ·rw[z2,af]at e;cases e
 rw[aL z2]at e;exact e
inductive qp(CT CD:Addr)(V:Addr->Prop)(H:Hp)(kn du:Addr)(n:Nat):Prop
 | mk (dk t dd u:Addr) (g:Nat) (ks ds:List (dN × L2.V)) (_:H kn=⇑(.ins CT dk [("given",.int (g:Nat)),("pairs",↥t)])) (_:H t=⇑(.dK ks)) (_:H du=⇑(.ins CD dd [("sums",↥u)])) (_:H u=⇑(.dK ds)) (_:V kn) (_:V t) (_:V du) (_:V u) (_:kn≠t) (_:kn≠du) (_:kn≠u) (_:t≠du) (_:t≠u) (_:du≠u) (_:↑ks<=n) (_:↑ds<=2*n) (_:∀ p∈ks,∃ i:Int,p.1=.inl i/\i<(g:Nat)) (_:∀ p∈ds,∃ i:Int,p.2=.int i) (_:∀ a,V a->a=kn\/a=t\/a=du\/a=u):qp CT CD V H kn du n
class inductive Dl(C CS CW CB CT CD:Addr)
 | mk (x d:Addr) (_:vs=[↥x]) (_:H x=⇑(.ins C d [])) (_: ∀ (U T:Addr->Prop) (kn du:Addr) (H':Hp),m7 C CS CW CB U H' x [[]] [] [] 0 ([],kn,du)->qp CT CD T H' kn du 0/\(∀ a,T a->¬ U a/\a≠x/\H a=none)->(∀ a,U a->a=x\/H a=none)->cz x H H'->Q .fT H')
theorem vj:aF ["self"] ["self"] (az jF):=eO
theorem tP:‹(3,49,["self"],(Dl C CS CW CB CT CD))›:=λD=>by
 specialize eS D.aa0.F vj;let⟨x,d,rfl,hx,k⟩:=h;refine⟨_,(aj (je (pv 0) (oH D.gU.YN (ya D) (hr.mono (by decide)) rfl D.gU.m D.aaW.b .nil bC) rfl) (aj (je (pv 0) (oH D.cN.YN (wj D) (hr.mono (by decide)) rfl D.cN.m D.aaP.b .nil bC) rfl) (aj (je (pv 0) (oH D.qf.YN (vU D) (hr.mono (by decide)) rfl D.qf.m D.dq9.b .nil bC) rfl) (aj (je (pv 0) (oH D.ue.YN (xY D) (hr.mono (by decide)) rfl D.ue.m D.aaU.b .nil bC) rfl) (aj (je (pv 0) (oH D.vS.YN (xX D) (hr.mono (by decide)) rfl D.vS.m D.aaV.b .nil bC) rfl) (au (je (pv 0) (bL ah) rfl))))))),?_⟩;intro wl dw hw1 hw2 _;refine⟨wl,dw,rfl,af,λsg ow pw H1 V1 k1 fsg fow fpw=>⟨rfl,?_⟩⟩;have s1:=l9 hw1 hw2 k1
 have fW:∀ a,(a=wl\/a=sg\/a=ow\/a=pw)->H a=none:=λa e=>by
  rcases e with rfl|rfl|rfl|rfl
  ·exact hw1
  ·exact jr fsg
  ·exact jr fow
  ·exact jr fpw
 have Ye:¬ (x=wl\/x=sg\/x=ow\/x=pw):=λe=>by
  have:=fW x e;rw[hx]at this;cases this
 refine⟨Y,x,C,d,Y,s1 _ _ hx,D.aM.cl,D.vI,by decide,?_⟩;have q2:cz x H (aN H1 x (.ins C d (L2.dZ "well" ↥wl []))):=cz.trans (gB.aI.keep s1) (aG x _ _);have x2:(aN H1 x (.ins C d (L2.dZ "well" ↥wl []))) x=⇑(.ins C d [("well",↥wl)]):=af;have kx2:cz x H1 (aN H1 x (.ins C d (L2.dZ "well" ↥wl []))):=aG x _ _;generalize aN H1 x (.ins C d (L2.dZ "well" ↥wl []))=H2 at q2 x2 kx2;have V2:=V1.kL (s1 _ _ hx) Ye kx2;intro sh dS X4 HU _;refine⟨sh,dS,rfl,af,λst op z H3 W3 k3 fst fop fz=>⟨rfl,?_⟩⟩;have s3:=l9 X4 HU k3
 have up:∀ a,(aN (aN H2 dS (.own sh)) sh (.ins CS dS [])) a=none->H2 a=none:=λa e=>by
  by_cases z1:a=sh
  ·rw[z1,af]at e;cases e
  rw[aL z1]at e;by_cases z2:a=dS
  ·rw[z2,af]at e;cases e
  rw[aL z2]at e;exact e
 have fS:∀ a,(a=sh\/a=st\/a=op\/a=z)->H2 a=none:=λa e=>by
  rcases e with rfl|rfl|rfl|rfl
  ·exact X4
  ·exact up _ fst
  ·exact up _ fop
  ·exact up _ fz
 have Yg:¬ (x=sh\/x=st\/x=op\/x=z):=λe=>by
  have:=fS x e;rw[x2]at this;cases this
 have x3:=s3 _ _ x2;have V3:=V2.same s3;refine⟨Y,x,C,d,Y,x3,D.aM.cl,D.fQ,(by show 1<1000;decide),?_⟩;have k4:cz x H3 (aN H3 x (.ins C d (L2.dZ "shelf" ↥sh [("well",↥wl)]))):=aG x _ _;have x4:(aN H3 x (.ins C d (L2.dZ "shelf" ↥sh [("well",↥wl)]))) x=⇑(.ins C d [("well",↥wl),("shelf",↥sh)]):=af;generalize aN H3 x (.ins C d (L2.dZ "shelf" ↥sh [("well",↥wl)]))=H4 at k4 x4;have W4:=W3.kL x3 Yg k4;have V4:=V3.kL x3 Ye k4;have q4:cz x H H4:=(q2.trans (gB.aI.keep s3)).trans k4;intro bl db DV U8 _;refine⟨bl,db,rfl,af,λtb H5 B5 R5 k5 ftb=>⟨rfl,?_⟩⟩;have s5:=l9 DV U8 k5;have Yh:=jr ftb;have x5:=s5 _ _ x4;have W5:=W4.same s5;have V5:=V4.same s5;have Qg:bl≠x:=(aA x4 DV).symm;refine⟨Y,x,C,d,Y,x5,D.aM.cl,D.xx,(by show 2<1000;decide),?_⟩;have k6:cz x H5 (aN H5 x (.ins C d (L2.dZ "blots" ↥bl [("well",↥wl),("shelf",↥sh)]))):=aG x _ _;have x6:(aN H5 x (.ins C d (L2.dZ "blots" ↥bl [("well",↥wl),("shelf",↥sh)]))) x=⇑(.ins C d [("well",↥wl),("shelf",↥sh),("blots",↥bl)]):=af;generalize aN H5 x (.ins C d (L2.dZ "blots" ↥bl [("well",↥wl),("shelf",↥sh)]))=H6 at k6 x6;have W6:=W5.kL x5 Yg k6;have V6:=V5.kL x5 Ye k6;have B6:Bl CB H6 bl db tb:=k6 _ _ B5 Qg;have R6:=R5.kL x5 k6;have q6:cz x H H6:=(q4.trans (gB.aI.keep s5)).trans k6;intro kn dk hk1 hk2 _;refine⟨kn,dk,rfl,af,λt7 H7 a7 b7 k7 f7=>⟨rfl,?_⟩⟩;have s7:=l9 hk1 hk2 k7;have g7:=jr f7;have x7:=s7 _ _ x6;have W7:=W6.same s7;have V7:=V6.same s7;have B7:Bl CB H7 bl db tb:=s7 _ _ B6;have R7:=R6.same s7;refine⟨Y,x,C,d,Y,x7,D.aM.cl,D.zZ,(by show 3<1000;decide),?_⟩;have k8:cz x H7 (aN H7 x (.ins C d (L2.dZ "knots" ↥kn [("well",↥wl),("shelf",↥sh),("blots",↥bl)]))):=aG x _ _;have x8:(aN H7 x (.ins C d (L2.dZ "knots" ↥kn [("well",↥wl),("shelf",↥sh),("blots",↥bl)]))) x=⇑(.ins C d [("well",↥wl),("shelf",↥sh),("blots",↥bl),("knots",↥kn)]):=af;generalize aN H7 x (.ins C d (L2.dZ "knots" ↥kn [("well",↥wl),("shelf",↥sh),("blots",↥bl)]))=H8 at k8 x8;have W8:=W7.kL x7 Yg k8;have V8:=V7.kL x7 Ye k8;have B8:Bl CB H8 bl db tb:=k8 _ _ B7 Qg;have R8:=R7.kL x7 k8;have q8:cz x H H8:=(q6.trans (gB.aI.keep s7)).trans k8;intro du dd F3 hd2 _;refine⟨du,dd,rfl,af,λt9 H9 a9 b9 k9 f9=>⟨rfl,?_⟩⟩;have s9:=l9 F3 hd2 k9;have g9:=jr f9;have x9:=s9 _ _ x8;have W9:=W8.same s9;have V9:=V8.same s9;have B9:Bl CB H9 bl db tb:=s9 _ _ B8;have R9:=R8.same s9;refine⟨Y,x,C,d,Y,x9,D.aM.cl,D.Fy,(by show 4<1000;decide),?_⟩;have Rq:cz x H9 (aN H9 x (.ins C d (L2.dZ "dues" ↥du [("well",↥wl),("shelf",↥sh),("blots",↥bl),("knots",↥kn)]))):=aG x _ _;have YZ:(aN H9 x (.ins C d (L2.dZ "dues" ↥du [("well",↥wl),("shelf",↥sh),("blots",↥bl),("knots",↥kn)]))) x=⇑(.ins C d [("well",↥wl),("shelf",↥sh),("blots",↥bl),("knots",↥kn),("dues",↥du)]):=af;generalize aN H9 x (.ins C d (L2.dZ "dues" ↥du [("well",↥wl),("shelf",↥sh),("blots",↥bl),("knots",↥kn)]))=Jc at Rq YZ;have W10:=W9.kL x9 Yg Rq;have V10:=V9.kL x9 Ye Rq;have B10:Bl CB Jc bl db tb:=Rq _ _ B9 Qg;have R10:=R9.kL x9 Rq;have CA:cz x H Jc:=(q8.trans (gB.aI.keep s9)).trans Rq;refine⟨gQ,λbk Ud=>⟨Y,x,C,d,Y,ak Ud _ _ _ YZ,D.aM.cl,D.Fz,(by show 5<1000;decide),?_⟩⟩;have nbx:bk≠x:=(aA YZ Ud).symm
 have nSb:¬ (bk=sh\/bk=st\/bk=op\/bk=z):=λe=>by
  let⟨ob,w⟩:=W10.al bk e;rw[Ud]at w;cases w
 have ua:=ak Ud (.lst []);have Ue:cz x (aN Jc bk (.lst [])) (aN (aN Jc bk (.lst [])) x (.ins C d (L2.dZ "book" ↥bk [("well",↥wl),("shelf",↥sh),("blots",↥bl),("knots",↥kn),("dues",↥du)]))):=aG x _ _;have W12:=(W10.same ua).kL (ua _ _ YZ) Yg Ue;have V12:=(V10.same ua).kL (ua _ _ YZ) Ye Ue;have B12:=Ue _ _ (ua _ _ B10) Qg;have R12:=(R10.same ua).kL (ua _ _ YZ) Ue;let⟨as5,hR5,_⟩:=id R5;have ace:∀ a,(a=sh\/a=st\/a=op\/a=z)->a=x\/H a=none:=λa e=>.inr (gM q2 (λe'=>by rw[e']at e;exact Yg e) (fS a e));refine k (λa=>(a=sh\/a=st\/a=op\/a=z)\/(a=wl\/a=sg\/a=ow\/a=pw)\/a=bk\/a=x\/a=bl\/a=tb) (λa=>a=kn\/a=t7\/a=du\/a=t9) kn du _ ⟨E,d,wl,sh,bl,kn,du,bk,dS,st,op,dw,sg,ow,pw,db,tb,[],⟨af,W12,?_,Yg,nSb⟩,V12,B12,R12,?_,?_,?_,?_,λa=>Iff.rfl⟩ ?_ ?_ ((CA.trans (gB.aI.keep ua)).trans Ue)
 ·rw[aL nbx];exact af
 ·exact⟨⟨.nil,λ_ z=>by cases z⟩,K⟩
 ·intro a ea;let⟨ob,hob⟩:=V2.al a ea;refine⟨λes=>?_,λeb=>?_,λex=>?_⟩
  ·rw[fS a es]at hob;cases hob
  ·let⟨ob',w⟩:=V10.al a ea;rw[eb,Ud]at w;cases w
  ·rw[ex]at ea;exact Ye ea
 ·refine⟨λes=>?_,λew=>?_,λeb=>?_⟩
  ·let⟨ob,w⟩:=W4.al bl es;rw[DV]at w;cases w
  ·let⟨ob,w⟩:=V4.al bl ew;rw[DV]at w;cases w
  ·rw[eb]at B10;have acf:Jc bk=⇑_:=B10;rw[Ud]at acf;cases acf
 ·refine⟨λes=>?_,λew=>?_,λeb=>?_⟩
  ·let⟨ob,w⟩:=W4.al tb es;rw[Yh]at w;cases w
  ·let⟨ob,w⟩:=V4.al tb ew;rw[Yh]at w;cases w
  ·let⟨as,hR,_⟩:=id R10;rw[eb,Ud]at hR;cases hR
 ·have nx6:∀ {a:Addr},H6 a=none->a≠x:=λf e=>by rw[e,x6]at f;cases f
  have nx8:∀ {a:Addr},H8 a=none->a≠x:=λf e=>by rw[e,x8]at f;cases f
  have alv:∀ a,((a=sh\/a=st\/a=op\/a=z)\/(a=wl\/a=sg\/a=ow\/a=pw)\/a=x\/a=bl\/a=tb)->∃ ob,H6 a=⇑ob:=λa e=>by
   rcases e with e|e|e|e|e
   ·exact W6.al a e
   ·exact V6.al a e
   ·rw[e];exact⟨_,x6⟩
   ·rw[e];exact⟨_,B6⟩
   ·let⟨as,hR,_⟩:=id R6;rw[e];exact⟨_,hR⟩
  have iS:∀ {a:Addr} {ob:HO},Jc a=⇑ob->(H6 a=none\/H8 a=none)->¬ ((a=sh\/a=st\/a=op\/a=z)\/(a=wl\/a=sg\/a=ow\/a=pw)\/a=bk\/a=x\/a=bl\/a=tb)/\a≠x/\H a=none:=λ{a ob} e f=>by
   have f6:H6 a=none:=f.elim id λf=>by
    cases q:H6 a with
    | none=>rfl
    | some o=>rw[k8 _ _ (s7 _ _ q) (nx8 f)]at f;cases f
   have nx:=nx6 f6;refine⟨λy=>?_,nx,gM q6 nx f6⟩;have nb:a≠bk:=λeb=>by rw[eb,Ud]at e;cases e
   have:∃ ob,H6 a=⇑ob:=alv a (by
    rcases y with y|y|y|y|y|y
    ·exact .inl y
    ·exact .inr (.inl y)
    ·exact absurd y nb
    ·exact .inr (.inr (.inl y))
    ·exact .inr (.inr (.inr (.inl y)))
    ·exact .inr (.inr (.inr (.inr y))))
   let⟨o,eo⟩:=this;rw[f6]at eo;cases eo
  have nk:=nx6 hk1;have nt:=nx6 g7;have nd':=nx8 F3;have nu:=nx8 g9;have akn:Jc kn=⇑_:=Rq _ _ (s9 _ _ (k8 _ _ a7 nk)) nk;have at7:Jc t7=⇑_:=Rq _ _ (s9 _ _ (k8 _ _ b7 nt)) nt;have adu:Jc du=⇑_:=Rq _ _ a9 nd';have at9:Jc t9=⇑_:=Rq _ _ b9 nu;have v1:=iS akn (.inl hk1);have v2:=iS at7 (.inl g7);have v3:=iS adu (.inr F3);have v4:=iS at9 (.inr g9);have nn:∀ {a b:Addr} {o:HO},H8 a=⇑o->H8 b=none->a≠b:=λe f z=>by rw[z,f]at e;cases e
  have e8k:=k8 _ _ a7 nk;have e8t:=k8 _ _ b7 nt;refine⟨⟨dk,t7,dd,t9,0,[],[],Ue _ _ (ua _ _ akn) nk,Ue _ _ (ua _ _ at7) nt,Ue _ _ (ua _ _ adu) nd',Ue _ _ (ua _ _ at9) nu,.inl rfl,.inr (.inl rfl),.inr (.inr (.inl rfl)),.inr (.inr (.inr rfl)),?_,nn e8k F3,nn e8k g9,nn e8t F3,nn e8t g9,?_,fK _,Nat.zero_le _,λp z=>(by cases z),λp z=>(by cases z),λ_ z=>z⟩,λa z=>?_⟩
  ·intro e;rw[e,b7]at a7;cases a7
  ·intro e;rw[e,b9]at a9;cases a9
  ·rcases z with rfl|rfl|rfl|rfl
   ·exact v1
   ·exact v2
   ·exact v3
   ·exact v4
 ·intro a ea;rcases ea with ea|ea|ea|ea|ea|ea
  ·exact ace a ea
  ·exact .inr (fW a ea)
  ·rw[ea];exact .inr (gM CA nbx Ud)
  ·exact .inl ea
  ·rw[ea];exact .inr (gM q4 Qg DV)
  ·by_cases ex:a=x
   ·exact .inl ex
   ·rw[ea]at ex ⊢;exact .inr (gM q4 ex Yh)
abbrev ctW:List Nat:=(Str.ofString "cut").cps.toList
abbrev qtW:List Nat:=(Str.ofString "quote").cps.toList
class inductive Ug(C CS CW CB:Addr)
 | mk (U:Addr->Prop) (x:Addr) (pe:gS) (aB:gW) (aK:gD) (nW:Nat) (bV:Vl) (s a b:Int) (rows:cJ) (_:vs=[↥x,.int s,.int a,.int b]) (_:m7 C CS CW CB U H x pe aB aK nW bV) (_:pe.getLast?=⇑rows) (_:↑rows<=50) (_:↑pe<=900) (_:↑aB<=900) (_:wN s) (_:wN a) (_:wN b)
  (_:qM ↑rows s) (_:∃ sh,Seen rows sh/\Sw a b ↑(sh s)/\(∀ es,rows[s.toNat]?=⇑es->(∃ f,nE (iM rows s.toNat (bR sh a b es)) f)/\
  ∀ (U':Addr->Prop) (H':Hp),m7 C CS CW CB U' H' x (pe++[iM rows s.toNat (bR sh a b es)]) (aB++[(jo.plain ctW [s,a,b]).line]) aK nW bV->AV U U' H H'->Q .fT H'))
class inductive Nh(C CS CW CB:Addr)
 | mk (U:Addr->Prop) (x:Addr) (pe:gS) (aB:gW) (aK:gD) (nW:Nat) (bV:Vl) (t p s a b:Int) (rows:cJ) (_:vs=[↥x,.int t,.int p,.int s,.int a,.int b]) (_:m7 C CS CW CB U H x pe aB aK nW bV) (_:pe.getLast?=⇑rows) (_:↑rows<=50) (_:↑pe<=900) (_:↑aB<=900) (_:wN t) (_:wN p) (_:wN s) (_:wN a) (_:wN b)
  (_:qM ↑rows t) (_:qM ↑rows s) (_:(∃ sh,Seen rows sh/\Sw a b ↑(sh s)/\((0<=p/\p<=↑(sh t))/\(∀ es,rows[t.toNat]?=⇑es->(∃ f,nE (iM rows t.toNat (fH sh p es (((sh s).take b.toNat).drop a.toNat))) f)/\
  ∀ (U':Addr->Prop) (H':Hp),m7 C CS CW CB U' H' x (pe++[iM rows t.toNat (fH sh p es (((sh s).take b.toNat).drop a.toNat))]) (aB++[(jo.plain qtW [t,p,s,a,b]).line]) aK nW bV->AV U U' H H'->Q .fT H'))))
class inductive Yi(C CS:Addr)
 | mk (S:Addr->Prop) (x d wl sh bl kn du bk dS st op:Addr) (pe:gS) (ops:List Int) (aB:gW) (rows:cJ) (s:Int) (_:vs=[↥x,.int s]) (_:gy C CS S H x d wl sh bl kn du bk dS st op (qO pe) ops aB) (_:pe.getLast?=⇑rows) (_:↑rows<=50) (_:↑pe<=900)
  (_:qM ↑rows s) (_:∀ es,rows[s.toNat]?=⇑es->∀ (q:Addr) (H':Hp),bw H' ↥q (aC es)->aI H H'->H q=none->Q ↥q H')
theorem uo:aF ["self","sheet","start","stop","items"] ["self","sheet","start","stop"] (az pS):=eO
theorem AY:‹(6,60,["self","sheet","start","stop"],(Ug C CS CW CB))›:=λD=>by
 refine eS D.aa3.F uo λcU A zn s0 H vs Q E hr h=>?_;let⟨U,x,pe,aB,aK,nW,bV,s,a,b,rows,rfl,LB,hl,l1,l2,l3,fs,fa,fb,ia,k2⟩:=h;let⟨S,SW,d,wl,sh,bl,kn,du,bk,dS,st,op,dw,sg,ow,pw,db,tb,ops,LU⟩:=id LB;exists _,(aj (aT (cA (cC (pv 0) rfl) D.cN D.DY (cG D) hr bC (aa (pv 1) ah))) (aj (aZ (i:=4) uo.nd (aH D.aaL (Eb D) hr (aa (fc (cC (pv 0) rfl) D.cN D.DZ (fj D) hr bC) (aa (pv 1) (aa (pv 2) (aa (pv 3) ah)))))) (au (aT (cA (pv 0) D.aM D.Gg (dP D) hr bC (aa (cH (aa bI (aa (pv 1) (aa (pv 2) (aa (pv 3) ah))))) (aa (pv 1) (aa (pv 4) ah))))))));refine⟨Y,x,C,d,_,↥sh,rfl,LU.L.hx,D.aM.cl,D.fQ,rfl,sh,dS,Y,LU.L.W.hx,rfl,Y,LU.L.Yc hl ia ?_⟩;let⟨f0,sn,i3,k4⟩:=k2;refine⟨Y,x,C,d,_,↥sh,rfl,LU.L.hx,D.aM.cl,D.fQ,rfl,sh,dS,Y,LU.L.W.hx,rfl,LU.L.rws hl l1 l2 λq H1 T8 s1=>?_⟩;have sl:s.toNat<↑rows:=by have:=ia.1;have:=ia.2;lia
 obtain⟨es,es1⟩:∃ es,rows[s.toNat]?=⇑es:=⟨_,tK sl⟩;refine⟨Y,Y,Y,q,rows,s,a,b,f0,rfl,⟨T8,by lia,sn.es,sn.sd,sn.rk,sn.ss,sn.ln⟩,ia.1,ia.2,i3,λtV q2 H2 o7 eN s2 Qf=>?_⟩;rw[es1]at o7;cases o7;let⟨B,k5⟩:=k4 es es1;have mZ:=s1.trans s2;have wC:=LU.same mZ;exact⟨Y,x,d,Y,wC.L.hx,rfl,Y,Y,Y,DU,λt ht=>⟨Y,Y,LU.chg (mZ.trans (ak ht _)) af (qc _).symm (by show kK PX ctW=some 3;decide +kernel) (Ia ia.1 fs.big (Ia i3.1 fa.big (Ia (by have:=i3.1;have:=i3.2.1;lia) fb.big fnN))) (eN.same (ak ht _)) (aR s1 Qf) hl l1 l2 l3 ia B k5⟩⟩
theorem lF:aF ["self","target","place","source","start","stop","row","items"] ["self","target","place","source","start","stop"] (az mH):=eO
theorem yf:‹(6,61,["self","target","place","source","start","stop"],(Nh C CS CW CB))›:=λD=>by
 refine eS D.aa4.F lF λcU A zn s0 H vs Q E hr h=>?_;let⟨U,x,pe,aB,aK,nW,bV,t,p,s,a,b,rows,rfl,LB,hl,l1,l2,l3,ft,fp,fs,fa,fb,it,ia,k4⟩:=h;let⟨S,SW,d,wl,sh,bl,kn,du,bk,dS,st,op,dw,sg,ow,pw,db,tb,ops,LU⟩:=id LB;exists _,(aj (aT (cA (cC (pv 0) rfl) D.cN D.DY (cG D) hr bC (aa (pv 1) ah))) (aj (aZ (i:=6) lF.nd (aH D.dq8 (Tg D) hr (aa (cA (pv 0) D.aM D.MM (gz D) hr bC (aa (pv 3) ah)) (aa (pv 4) (aa (pv 5) ah))))) (aj (aZ (i:=7) lF.nd (aH D.SX (qj D) hr (aa (fc (cC (pv 0) rfl) D.cN D.DZ (fj D) hr bC) (aa (pv 1) (aa (pv 2) (aa (aH D.Gf (mR D) hr (aa (pv 6) ah)) ah)))))) (au (aT (cA (pv 0) D.aM D.Gg (dP D) hr bC (aa (cH (aa bI (aa (pv 1) (aa (pv 2) (aa (pv 3) (aa (pv 4) (aa (pv 5) ah))))))) (aa (pv 1) (aa (pv 7) ah)))))))));refine⟨Y,x,C,d,_,↥sh,rfl,LU.L.hx,D.aM.cl,D.fQ,rfl,sh,dS,Y,LU.L.W.hx,rfl,Y,LU.L.Yc hl it ?_⟩;exists Y,x,d,Y,LU.L.hx,rfl,Y,S,x,d,wl,sh,bl,kn,du,bk,dS,st,op,pe,ops,aB,rows,s,rfl,LU.L,hl,l1,l2,ia;let⟨f0,sn,i3,ip,k8⟩:=k4;refine⟨f0,sn,λo H1 ho s1 fo=>?_⟩;have ls:↑(f0 s)<=10000:=sn.ln s ia.1 ia.2;have lr0:=j5 (f0 s);have tt:i7 (cF (f0 s))=↑(f0 s):=Dk _;refine⟨Y,Y,o,cF (f0 s),a,b,rfl,ho,by lia,by rw[tt];exact i3,λq0 H2 hq0 s2 fq0=>?_⟩;have mZ:=s1.trans s2;have wC:=LU.same mZ;refine⟨Y,x,C,d,_,↥sh,rfl,wC.L.hx,D.aM.cl,D.fQ,rfl,sh,dS,Y,wC.L.W.hx,rfl,wC.L.rws hl l1 l2 λq H3 fs3 s3=>?_⟩;have Bx:=mZ.trans s3;have tl:t.toNat<↑rows:=by have:=it.1;have:=it.2;lia
 obtain⟨es,es1⟩:∃ es,rows[t.toNat]?=⇑es:=⟨_,tK tl⟩;have nnp:∀ {r:Row},jJ r->lI r:=λh p hp=>⟨(h p hp).1,by have:=(h p hp).2;lia⟩;have nn0:lI (cF (f0 s)):=nnp (CZ (oZ sn.sd sn.rk sn.ss s ia.1 ia.2));have nn1:lI (cy (kM a b 0 (cF (f0 s)))):=nnp (oW (Au a b _ 0 nn0))
 have lpl:↑(cy (kM a b 0 (cF (f0 s))))<=10000:=by
  have:=sX a b (cF (f0 s));rw[zE]at this;lia
 have epl:dF (cQ (cy (cy (kM a b 0 (cF (f0 s))))))=((f0 s).take b.toNat).drop a.toNat:=by
  rw[oY,nA _ λq hq=>(nn1 q hq).2,pZ _ _ _ (jH _),dz]
 refine⟨Y,Y,Y,q0,Y,hq0.same s3,by lia,λoi H4 hoi s4 foi=>?_⟩;have NU:=Bx.trans s4;refine⟨q,oi,rows,t,p,_,f0,rfl,⟨fs3.same s4,by lia,sn.es,sn.sd,sn.rk,sn.ss,sn.ln⟩,it.1,it.2,hoi,vZ (oW nn1),?_,ip,λtV q2 H5 o7 eN s5 Qf=>?_⟩
 ·rw[zE];have:=lY (cy (kM a b 0 (cF (f0 s))));lia
 rw[es1]at o7;cases o7;rw[epl]at eN;let⟨B,k9⟩:=k8 es es1;have JI:=NU.trans s5;have Vw:=LU.same JI;exact⟨Y,x,d,Y,Vw.L.hx,rfl,Y,Y,Y,Y,Y,aax,λt' ht=>⟨Y,Y,LU.chg (JI.trans (ak ht _)) af (qc _).symm (by show kK PX qtW=some 5;decide +kernel) (Ia it.1 ft.big (Ia ip.1 fp.big (Ia ia.1 fs.big (Ia i3.1 fa.big (Ia (by have:=i3.1;have:=i3.2.1;lia) fb.big fnN))))) (eN.same (ak ht _)) (aR NU Qf) hl l1 l2 l3 it B k9⟩⟩
theorem BP:aF ["self","sheet"] ["self","sheet"] (az pT):=eO
theorem AZ:‹(4,62,["self","sheet"],(Yi C CS))›:=λD=>by
 refine eS D.aa5.F BP λcU A zn s0 H vs Q E hr h=>?_;let⟨S,x,d,wl,sh,bl,kn,du,bk,dS,st,op,pe,ops,aB,rows,s,rfl,L,hl,l1,l2,ia,k2⟩:=h;have lo:=wz L hl;have hl':=jq hl;have lp:↑(qO pe)=↑pe:=cB _;exists _,(au (aJ (cA (cC (pv 0) rfl) D.cN D.aaT (Eh D) hr bC (aa (pv 1) ah))));refine⟨Y,x,C,d,_,↥sh,rfl,L.hx,D.aM.cl,D.fQ,rfl,sh,dS,Y,L.W.hx,rfl,Y,S,sh,dS,st,op,qO pe,ops,s,rfl,L.W,by rw[lo];exact ia,λsi last aP e1 e2 e3=>?_⟩;rw[hl']at e2;cases e2;rw[mY]at e3;let⟨es,e4,rfl⟩:=Option.map_eq_some_iff.mp e3;have il:=(List.getElem?_eq_some_iff.mp e4).1;exact λq H' hq s1 fq=>k2 es (by rw[e1,Int.toNat_natCast];exact e4) q H' hq s1 fq
abbrev wnW:List Nat:=(Str.ofString "window").cps.toList
class inductive Qh(C CS CW CB:Addr)
 | mk (U:Addr->Prop) (x:Addr) (pe:gS) (aB:gW) (aK:gD) (nW:Nat) (bV:Vl) (t p s:Int) (rows:cJ) (_:vs=[↥x,.int t,.int p,.int s]) (_:m7 C CS CW CB U H x pe aB aK nW bV) (_:pe.getLast?=⇑rows) (_:↑rows<=50) (_:↑pe<=900) (_:↑aB<=900) (_:wN t) (_:wN p) (_:wN s)
  (_:qM ↑rows t) (_:qM ↑rows s) (_:(∃ sh,Seen rows sh/\(0<=p/\p<=↑(sh t))/\(∀ es,rows[t.toNat]?=⇑es->(∃ f,nE (iM rows t.toNat (fH sh p es [-1-s])) f)/\
  ∀ (U':Addr->Prop) (H':Hp),m7 C CS CW CB U' H' x (pe++[iM rows t.toNat (fH sh p es [-1-s])]) (aB++[(jo.plain wnW [t,p,s]).line]) aK nW bV->AV U U' H H'->Q .fT H')))
theorem pA:aF ["self","target","place","source","items"] ["self","target","place","source"] (az kX):=eO
theorem wD:‹(6,63,["self","target","place","source"],(Qh C CS CW CB))›:=λD=>by
 refine eS D.aa6.F pA λcU A zn s0 H vs Q E hr h=>?_;let⟨U,x,pe,aB,aK,nW,bV,t,p,s,rows,rfl,LB,hl,l1,l2,l3,ft,fp,fs,it,ia,k4⟩:=h;let⟨S,SW,d,wl,sh,bl,kn,du,bk,dS,st,op,dw,sg,ow,pw,db,tb,ops,LU⟩:=id LB;exists _,(aj (aT (cA (cC (pv 0) rfl) D.cN D.DY (cG D) hr bC (aa (pv 1) ah))) (aj (aT (cA (cC (pv 0) rfl) D.cN D.DY (cG D) hr bC (aa (pv 3) ah))) (aj (aZ (i:=4) pA.nd (aH D.SX (qj D) hr (aa (fc (cC (pv 0) rfl) D.cN D.DZ (fj D) hr bC) (aa (pv 1) (aa (pv 2) (aa (bL (aa (cH (aa bI (aa (pv 3) ah))) ah)) ah)))))) (au (aT (cA (pv 0) D.aM D.Gg (dP D) hr bC (aa (cH (aa bI (aa (pv 1) (aa (pv 2) (aa (pv 3) ah))))) (aa (pv 1) (aa (pv 4) ah)))))))));refine⟨Y,x,C,d,_,↥sh,rfl,LU.L.hx,D.aM.cl,D.fQ,rfl,sh,dS,Y,LU.L.W.hx,rfl,Y,LU.L.Yc hl it ?_⟩;refine⟨Y,x,C,d,_,↥sh,rfl,LU.L.hx,D.aM.cl,D.fQ,rfl,sh,dS,Y,LU.L.W.hx,rfl,Y,LU.L.Yc hl ia ?_⟩;let⟨f0,sn,ip,k8⟩:=k4;refine⟨Y,x,C,d,_,↥sh,rfl,LU.L.hx,D.aM.cl,D.fQ,rfl,sh,dS,Y,LU.L.W.hx,rfl,LU.L.rws hl l1 l2 λq H1 T8 s1=>?_⟩;have tl:t.toNat<↑rows:=by have:=it.1;have:=it.2;lia
 obtain⟨es,es1⟩:∃ es,rows[t.toNat]?=⇑es:=⟨_,tK tl⟩;refine⟨Y,Y,Y,oX,λt2 NN=>⟨ku,λo ho=>?_⟩⟩;have s2:=ak NN (.tup [.str "win",.int s]);have t2':(aN H1 t2 (.tup [.str "win",.int s])) t2=⇑(.tup [.str "win",.int s]):=af;generalize aN H1 t2 (.tup [.str "win",.int s])=H2 at s2 t2' ho;have s3:=ak ho (.lst [↥t2]);have o3:(aN H2 o (.lst [↥t2])) o=⇑(.lst [↥t2]):=af;show yH _ (aN H2 o (.lst [↥t2])) _ _;generalize aN H2 o (.lst [↥t2])=H3 at s3 o3;have Bx:=s1.trans (s2.trans s3);have hoi:bw H3 ↥o [.win s]:=⟨o,Y,o3,.cons ⟨t2,rfl,s3 _ _ t2'⟩ .nil⟩;refine⟨q,o,rows,t,p,[.win s],f0,rfl,⟨T8.same (s2.trans s3),by lia,sn.es,sn.sd,sn.rk,sn.ss,sn.ln⟩,it.1,it.2,hoi,.one ia.1,(by show 1<=10000;decide),ip,λtV q2 H5 o7 eN s5 Qf=>?_⟩;rw[es1]at o7;cases o7;rw[show dF [aS.win s]=[-1-s] from rfl]at eN;let⟨B,k9⟩:=k8 es es1;have JI:=Bx.trans s5;have Vw:=LU.same JI;exact⟨Y,x,d,Y,Vw.L.hx,rfl,Y,Y,Y,DU,λt' ht=>⟨Y,Y,LU.chg (JI.trans (ak ht _)) af (qc _).symm (by show kK PX wnW=some 3;decide +kernel) (Ia it.1 ft.big (Ia ip.1 fp.big (Ia ia.1 fs.big fnN))) (eN.same (ak ht _)) (aR Bx Qf) hl l1 l2 l3 it B k9⟩⟩
abbrev fxW:List Nat:=(Str.ofString "fix").cps.toList
class inductive acg(C CS CW CB:Addr)
 | mk (U:Addr->Prop) (x:Addr) (pe:gS) (aB:gW) (aK:gD) (nW:Nat) (bV:Vl) (t:Int) (rows:cJ) (_:vs=[↥x,.int t]) (_:m7 C CS CW CB U H x pe aB aK nW bV) (_:pe.getLast?=⇑rows) (_:↑rows<=50) (_:↑pe<=900) (_:↑aB<=900) (_:wN t)
  (_:qM ↑rows t) (_:∃ sh,Seen rows sh/\(∃ f,nE (iM rows t.toNat (sh t)) f)/\
  ∀ (U':Addr->Prop) (H':Hp),m7 C CS CW CB U' H' x (pe++[iM rows t.toNat (sh t)]) (aB++[(jo.plain fxW [t]).line]) aK nW bV->AV U U' H H'->Q .fT H')
theorem BQ:aF ["self","sheet"] ["self","sheet"] (az pU):=eO
theorem A0:‹(6,64,["self","sheet"],(acg C CS CW CB))›:=λD=>by
 refine eS D.aa7.F BQ λcU A zn s0 H vs Q E hr h=>?_;let⟨U,x,pe,aB,aK,nW,bV,t,rows,rfl,LB,hl,l1,l2,l3,ft,it,k2⟩:=h;let⟨S,SW,d,wl,sh,bl,kn,du,bk,dS,st,op,dw,sg,ow,pw,db,tb,ops,LU⟩:=id LB;exists _,(aj (aT (cA (cC (pv 0) rfl) D.cN D.DY (cG D) hr bC (aa (pv 1) ah))) (au (aT (cA (pv 0) D.aM D.Gg (dP D) hr bC (aa (cH (aa bI (aa (pv 1) ah))) (aa (pv 1) (aa (aH D.aaN (AH D) hr (aa (fc (cC (pv 0) rfl) D.cN D.DZ (fj D) hr bC) (aa (pv 1) ah))) ah)))))));refine⟨Y,x,C,d,_,↥sh,rfl,LU.L.hx,D.aM.cl,D.fQ,rfl,sh,dS,Y,LU.L.W.hx,rfl,Y,LU.L.Yc hl it ?_⟩;let⟨f0,sn,⟨fB,B⟩,k9⟩:=k2;refine⟨Y,x,d,Y,LU.L.hx,rfl,Y,oX,λt' ht=>?_⟩;have s6:=ak ht (.tup [.str "fix",.int t]);have ht6:(aN H t' (.tup [.str "fix",.int t])) t'=⇑(.tup [.str "fix",.int t]):=af;generalize aN H t' (.tup [.str "fix",.int t])=H6 at s6 ht6;have LU6:=LU.same s6;refine⟨Y,Y,x,C,d,_,↥sh,rfl,LU6.L.hx,D.aM.cl,D.fQ,rfl,sh,dS,Y,LU6.L.W.hx,rfl,LU6.L.rws hl l1 l2 λq H1 T8 s1=>?_⟩;refine⟨Y,q,rows,t,f0,rfl,⟨T8,by lia,sn.es,sn.sd,sn.rk,sn.ss,sn.ln⟩,it.1,it.2,λq2 H5 eN s5 Qf=>?_⟩;have JI:=s6.trans (s1.trans s5);have Vw:=LU.same JI;exact LU.chg JI (s5 _ _ (s1 _ _ ht6)) (qc _).symm (by show kK PX fxW=some 1;decide +kernel) (Ia it.1 ft.big fnN) eN (aR (s6.trans s1) Qf) hl l1 l2 l3 it ⟨fB,B⟩ k9
abbrev mvW:List Nat:=(Str.ofString "move").cps.toList
class inductive Yj(C CS CW CB:Addr)
 | mk (U:Addr->Prop) (x:Addr) (pe:gS) (aB:gW) (aK:gD) (nW:Nat) (bV:Vl) (s a b to:Int) (rows:cJ) (_:vs=[↥x,.int s,.int a,.int b,.int to]) (_:m7 C CS CW CB U H x pe aB aK nW bV) (_:pe.getLast?=⇑rows) (_:↑rows<=50) (_:↑pe<=900) (_:↑aB<=900) (_:wN s) (_:(-100000<a/\a<100000)) (_:(-100000<b/\b<100000)) (_:(-100000<to/\to<100000))
  (_:qM ↑rows s) (_:∃ sh,Seen rows sh/\Mv a b to ↑(sh s)/\(∀ es,rows[s.toNat]?=⇑es->(∃ f,nE (iM rows s.toNat (lS sh a b to es)) f)/\
  ∀ (U':Addr->Prop) (H':Hp),m7 C CS CW CB U' H' x (pe++[iM rows s.toNat (lS sh a b to es)]) (aB++[(jo.plain mvW [s,a,b,to]).line]) aK nW bV->AV U U' H H'->Q .fT H'))
theorem rT:aF ["self","sheet","start","stop","to","items"] ["self","sheet","start","stop","to"] (az nQ):=eO
theorem zb:‹(6,65,["self","sheet","start","stop","to"],(Yj C CS CW CB))›:=λD=>by
 refine eS D.aa8.F rT λcU A zn s0 H vs Q E hr h=>?_;let⟨U,x,pe,aB,aK,nW,bV,s,a,b,to,rows,rfl,LB,hl,l1,l2,l3,fs,fa,fb,fo,ia,k2⟩:=h;let⟨S,SW,d,wl,sh,bl,kn,du,bk,dS,st,op,dw,sg,ow,pw,db,tb,ops,LU⟩:=id LB;exists _,(aj (aT (cA (cC (pv 0) rfl) D.cN D.DY (cG D) hr bC (aa (pv 1) ah))) (aj (aZ (i:=5) rT.nd (aH D.aaM (AG D) hr (aa (fc (cC (pv 0) rfl) D.cN D.DZ (fj D) hr bC) (aa (pv 1) (aa (pv 2) (aa (pv 3) (aa (pv 4) ah))))))) (au (aT (cA (pv 0) D.aM D.Gg (dP D) hr bC (aa (cH (aa bI (aa (pv 1) (aa (pv 2) (aa (pv 3) (aa (pv 4) ah)))))) (aa (pv 1) (aa (pv 5) ah))))))));refine⟨Y,x,C,d,_,↥sh,rfl,LU.L.hx,D.aM.cl,D.fQ,rfl,sh,dS,Y,LU.L.W.hx,rfl,Y,LU.L.Yc hl ia ?_⟩;let⟨f0,sn,i3,k4⟩:=k2;refine⟨Y,x,C,d,_,↥sh,rfl,LU.L.hx,D.aM.cl,D.fQ,rfl,sh,dS,Y,LU.L.W.hx,rfl,LU.L.rws hl l1 l2 λq H1 T8 s1=>?_⟩;have sl:s.toNat<↑rows:=by have:=ia.1;have:=ia.2;lia
 obtain⟨es,es1⟩:∃ es,rows[s.toNat]?=⇑es:=⟨_,tK sl⟩;refine⟨Y,Y,Y,Y,q,rows,s,a,b,to,f0,rfl,⟨T8,by lia,sn.es,sn.sd,sn.rk,sn.ss,sn.ln⟩,ia.1,ia.2,i3,λtV q2 H2 o7 eN s2 Qf=>?_⟩;rw[es1]at o7;cases o7;let⟨B,k5⟩:=k4 es es1;have mZ:=s1.trans s2;have wC:=LU.same mZ;exact⟨Y,x,d,Y,wC.L.hx,rfl,Y,Y,Y,Y,aaw,λt ht=>⟨Y,Y,LU.chg (mZ.trans (ak ht _)) af (qc _).symm (by show kK PX mvW=some 4;decide +kernel) (Ia ia.1 fs.big (Ia i3.1.1 (wN.XY fa).big (Ia (by have:=i3.1.1;have:=i3.1.2.1;lia) (wN.XY fb).big (Ia (by have:=i3.2;lia) (wN.XY fo).big fnN)))) (eN.same (ak ht _)) (aR s1 Qf) hl l1 l2 l3 ia B k5⟩⟩
class inductive Qi
 | mk (r:Addr) (x:Int) (_:vs=[↥r,.int x]) (_:H r=⇑(.lst [])) (_:Q (.int 0) H)
theorem fm:aF ["holes","start","low","high","middle"] ["holes","start"] (az kZ):=eO
theorem nF:‹(1,66,["holes","start"],Qi)›:=λD=>by
 specialize eS D.Xw.F fm;let⟨r,x,rfl,h1,k⟩:=h;exists _,(aj (aZ (i:=2) fm.nd ay) (aj (aZ (i:=3) fm.nd (gp D.T.gg (pv 0))) (aj (qV PassesOwn.never (aV jT (pv 2) (pv 3) (bh _)) (aj (aZ (i:=4) fm.nd (bz Aa (bz dH (pv 2) (pv 3)) ay)) (au (bO (aV Fq (aO aW (aO bu (pv 0) (pv 4)) ay) (pv 1) (bh _)) (au (aZ (i:=3) fm.nd (pv 4))) (au (aZ (i:=2) fm.nd (bz dH (pv 4) ay))))))) (au (aJ (pv 2))))));exists Y,r,Y,.inl (bG.of h1);exists λm σ H2=>σ=[⇑↥r,⇑(.int x),⇑(.int 0),⇑(.int 0),none]/\H2=H,⟨0,K⟩;rintro m σ H2 ⟨rfl,rfl⟩;exact⟨Y,Y,Z,Y,cR (λc=>absurd c (by decide)) (λ_=>⟨Y,k⟩)⟩
class inductive Ni
 | mk (r:Addr) (x:Int) (_:vs=[↥r,.int x]) (_:H r=⇑(.lst [])) (_:Q (.bl false) H)
theorem GQ:aF ["holes","address","hole"] ["holes","address"] (az DK):=eO
theorem Nj:‹(2,67,["holes","address"],Ni)›:=λD=>by
 specialize eS D.aa9.F GQ;let⟨r,x,rfl,h1,k⟩:=h;exists _,(aj (aZ (i:=2) GQ.nd (aH D.Xw (nF D) hr (aa (pv 0) (aa (pv 1) ah)))) (au (aJ (uw (lN jT (pv 2) (gp D.T.gg (pv 0)) (bh _)) (wV (lN fY (aO aW (aO bu (pv 0) (pv 2)) ay) (pv 1) (bh _)))))));exact⟨Y,Y,r,x,rfl,h1,Y,Y,r,Y,.inl (bG.of h1),Z,Y,cR (λc=>absurd c (by decide)) (λ_=>k)⟩
class inductive Qj(CB:Addr)
 | mk (x d t:Addr) (a:Int) (_:vs=[↥x,.int a]) (_:Bl CB H x d t) (_:H t=⇑(.lst [])) (_:Q (.bl false) H)
theorem BR:aF ["self","address"] ["self","address"] (az pV):=eO
theorem A1:‹(3,68,["self","address"],(Qj CB))›:=λD=>by
 specialize eS D.aba.F BR;let⟨x,d,t,a,rfl,hx,h1,k⟩:=h;exists _,(au (aJ (aH D.aa9 (Nj D) hr (aa (cC (pv 0) rfl) (aa (pv 1) ah)))));exact⟨Y,x,CB,d,_,↥t,rfl,hx,D.qf.cl,D.sE,rfl,Y,t,a,rfl,h1,k⟩
class inductive Nk(C:Addr)
 | mk (S:Addr->Prop) (x d s o p:Addr) (n:Nat) (aK:gD) (a:Int) (_:vs=[↥x,.int a]) (_:We C S H x d s o p n aK) (_:0<=a) (_:a<(↑aK:Nat)) (_:Q .fT H)
class inductive Qk(C:Addr)
 | mk (S:Addr->Prop) (x d s o p:Addr) (n:Nat) (aK:gD) (j:Nat) (q:Int × Nat) (_:vs=[↥x,.int (j:Nat)]) (_:We C S H x d s o p n aK) (_:aK[j]?=⇑q) (_:Q (By q.2) H)
theorem rV:aF ["self","address"] ["self","address"] (az iQ):=eO
theorem GR:aF ["self","address"] ["self","address"] (az uL):=eO
theorem jU:‹(2,69,["self","address"],(Nk CW))›:=λD=>by
 specialize eS D.Xx.F rV;let⟨S,x,d,s,o,p,n,aK,a,rfl,W,a0,a1,k⟩:=h;exists _,(au (bO (jd (qW fY jT ay (pv 1) (fc (pv 0) D.gU D.ML (jN D) hr bC))) (au iV) br));refine⟨Y,Z,Y,cR (λc0=>?_) (λc0=>absurd (decide_eq_true a0) c0)⟩;exists Y,x,d,Y,W.hx,rfl,x,d,s,o,p,aK,rfl,W.hx,W.hs,Z,Y;rw[decide_eq_true a1];exact eL k
theorem Er:‹(3,70,["self","address"],(Qk CW))›:=λD=>by
 specialize eS D.abb.F GR;let⟨S,x,d,s,o,p,n,aK,j,q,rfl,W,eq,k⟩:=h;have jl:=(List.getElem?_eq_some_iff.mp eq).1;exists _,(aj (aT (cA (pv 0) D.gU D.Xx (jU D) hr bC (aa (pv 1) ah))) (au (aJ (aO bu (cC (pv 0) rfl) (pv 1)))));refine⟨Y,x,d,Y,W.hx,rfl,Y,S,x,d,s,o,p,n,aK,(j:Nat),rfl,W,by lia,by lia,?_⟩;exact⟨Y,x,CW,d,_,↥s,rfl,W.hx,D.gU.cl,D.uT,rfl,Y,s,Q,K,bG.of W.hs,(dm (by unfold Nf;rw[mY,eq];rfl):_=⇑(By q.2)),k⟩
def Ql(aK:gD)(a:Int):Nat:=((aK[a.toNat]?).map Prod.snd).getD 0
class inductive Qm(C CS CW CB:Addr)
 | mk (U:Addr->Prop) (x r:Addr) (pe:gS) (aB:gW) (aK:gD) (nW:Nat) (kd:Addr × Addr) (row:Row) (v:V) (_:vs=[↥x,↥r,v]) (_:m7 C CS CW CB U H x pe aB aK nW ([],kd)) (_:bW H r row) (_:(∀ p∈row,p.1<=p.2)) (_:↑(bK row)<=100000) (_:(∀ a∈bK row,0<=a/\a<(↑aK:Nat))) (_:∀ H',aI H H'->Q (.str (eT ((bK row).map (Ql aK)))) H')
class inductive Qn(C CS CW CB:Addr)
 | mk (U:Addr->Prop) (x:Addr) (pe:gS) (aB:gW) (aK:gD) (nW:Nat) (kd:Addr × Addr) (rows:cJ) (s:Int) (sh:Int->List Int) (_:vs=[↥x,.int s]) (_:m7 C CS CW CB U H x pe aB aK nW ([],kd)) (_:pe.getLast?=⇑rows) (_:↑pe<=900) (_:↑rows<=50) (_:qM ↑rows s) (_:Seen rows sh) (_:↑(sh s)<=200) (_:∀ a∈sh s,0<=a/\a<(↑aK:Nat)) (_:∀ H',aI H H'->Q (.str (eT ((sh s).map (Ql aK)))) H')
theorem yg:aF ["self","row","veil"] ["self","row","veil"] (az i6):=eO
theorem A2:aF ["self","sheet"] ["self","sheet"] (az nR):=eO
theorem wG:‹(4,71,["self","row","veil"],(Qm C CS CW CB))›:=λD=>by
 refine eS D.abc.F yg λcU A zn s0 H vs Q E hr h=>?_;let⟨U,x,r,pe,aB,aK,nW,kd,row,v,rfl,LB,hr1,ok,ls,ia,k⟩:=h;let⟨S,SW,d,wl,sh,bl,kn,du,bk,dS,st,op,dw,sg,ow,pw,db,tb,ops,LU⟩:=id LB;refine⟨_,(au (aJ (dQ PySem.F.plainAttrs_str PySem.F.slot_str_join PySem.F.type_str_join O7 bI (aa (gI (N:=["address","self","veil"]) (jI (sc:=az i6) (NX:=["self","row","veil"]) (jx:=[none,some 0,some 2]) rfl rfl rfl nofun nofun rfl nofun rfl nofun) rfl (cu (aH D.Xj (vV D) hr (aa (pv 1) ah))) (λ_ _ _ _ _ _=>(bQ (i:=0) (show List.Nodup (["address","self","veil"]:List Str) by decide +kernel))) (λ_ _ _ _ _ _=>fZ) (λ_ _ _ _ _ _=>(Fl (jz (cA (Lg (pv 1) rfl) D.qf D.aba (A1 D) hr bC (aa (pv 0) ah))) (pv 2) (cA (Lg (pv 1) rfl) D.gU D.abb (Er D) hr bC (aa (pv 0) ah))))) ah)))),?_⟩;refine⟨rfl,Y,r,row,rfl,hr1,ok,by lia,λn H1 hn s1 fn=>?_⟩;refine⟨n,rfl,⟨_,bG.of hn⟩,λacc cP=>fE (K:=K) (a:=n) (xs:=(bK row).map V.int) (λi σ H2=>∃ u:Option V,σ=[u,⇑↥x,⇑v]/\H2 acc=⇑(.lst ((((bK row).take i).map (Ql aK)).map By))/\aI H1 H2) ⟨none,rfl,af,ak cP _⟩ (by rintro i σ H2 _ ⟨_,_,_,s2⟩;exact bG.of (s2 _ _ hn)) ?_ ?_⟩
 ·rintro i y σ H2 hi ⟨u,rfl,h2,s2⟩;rw[mY]at hi;let⟨a,ei,rfl⟩:=Option.map_eq_some_iff.mp hi;have il:=(List.getElem?_eq_some_iff.mp ei).1;let⟨a0,a1⟩:=ia a (nJ ei);have wC:=LU.same (s1.trans s2);obtain⟨q,eq⟩:∃ q,aK[a.toNat]?=⇑q:=⟨_,tK ∅⟩;let⟨ts,ht,pt⟩:=id wC.R;cases pt;have ea:Ql aK a=q.2:=by unfold Ql;rw[eq];rfl
  exists Y,x,C,d,_,↥bl,rfl,wC.L.hx,D.aM.cl,D.xx,rfl,bl,db,Y,wC.B,rfl,Y,bl,db,tb,a,rfl,wC.B,ht;refine⟨Y,eL ⟨Y,x,C,d,_,↥wl,rfl,wC.L.hx,D.aM.cl,D.vI,rfl,wl,dw,Y,wC.W.hx,rfl,Y,SW,wl,dw,sg,ow,pw,nW,aK,a.toNat,q,by rw[show ((a.toNat:Nat):Int)=a by lia];rfl,wC.W,eq,?_⟩⟩;refine⟨_,h2,aQ (by rw[cB,cB,gr];lia),Y,?_,bH cP s2 (aG acc _ _)⟩;rw[af,take_snoc ei,gE,gE,← ea];rfl
 ·rintro σ H2 ⟨u,rfl,h2,s2⟩;rw[cB,gH]at h2;exact⟨acc,Y,rfl,h2,by rw[cB];lia,k H2 (s1.trans s2)⟩
theorem zc:‹(6,72,["self","sheet"],(Qn C CS CW CB))›:=λD=>by
 let⟨Uh,Ui⟩:=D.G.h;refine eS D.abd.F A2 λcU A zn s0 H vs Q E hr h=>?_;let⟨U,x,pe,aB,aK,nW,kd,rows,s,f0,rfl,LB,hl,l2,l1,ia,sn,ls,hin,k⟩:=h;let⟨S,SW,d,wl,sh,bl,kn,du,bk,dS,st,op,dw,sg,ow,pw,db,tb,ops,LU⟩:=id LB;exists _,(au (aJ (cA (pv 0) D.aM D.abc (wG D) hr bC (aa (cA (pv 0) D.aM D.MM (gz D) hr bC (aa (pv 1) ah)) (aa (Dw (v:=.str "#") rfl Ui ⟨Uh,rfl⟩) ah)))));refine⟨Y,x,d,Y,LU.L.hx,rfl,Y,x,d,Y,LU.L.hx,rfl,Y,S,x,d,wl,sh,bl,kn,du,bk,dS,st,op,pe,ops,aB,rows,s,rfl,LU.L,hl,l1,l2,ia,⟨f0,sn,λo H1 ho s1 fo=>?_⟩⟩;exact⟨U,x,o,pe,aB,aK,nW,kd,cF (f0 s),Y,LB.same s1,ho,jH _,by rw[dz];lia,by rw[dz];exact hin,by rw[dz];exact λH2 s2=>k H2 (s1.trans s2)⟩
class inductive Nl
 | mk (r:Addr) (_:vs=[↥r]) (_:H r=⇑(.lst [])) (_:∀ (q:Addr) (H':Hp),H' q=⇑(.lst [])->aI H H'->H q=none->Q ↥q H')
theorem wH:aF ["row","told","start","stop"] ["row"] (az DL):=eO
theorem Nm:‹(2,73,["row"],Nl)›:=λD=>by
 specialize eS D.abe.F wH;let⟨r,rfl,vt,k⟩:=h;refine⟨_,(aj (aZ (i:=1) wH.nd (bL ah)) (aj (dX PassesOwn.never rfl (cu (bY DS rfl D.T.Ge PyProof.Rows.boot_sorted (aa (aH D.Vc (mP D) hr (aa (pv 0) ah)) ah))) (kQ (n:=2) rfl (bP (bQ (i:=2) wH.nd) (bP (bQ (i:=3) wH.nd) fX))) (au (bO (PW.pt (kO (mq (pv 1) (λ_=>rfl)) (j6 (aV fY (pv 2) (aO aW (aO bu (pv 1) (gv d7 ay)) ay) (bh _))))) (au (mj (cH (aa (aO aW (aO bu (pv 1) (gv d7 ay)) ay) (aa (bY (lX rfl) rfl D.T.Ax PyProof.Rows.boot_max (aa (aO aW (aO bu (pv 1) (gv d7 ay)) ay) (aa (pv 3) ah))) ah))) (pF (pv 1) (gv d7 ay) jB))) (au (aT (dQ qF jV jW bS (pv 1) (aa (cH (aa (pv 2) (aa (pv 3) ah))) ah))))))) (au (aJ (pv 1))))),?_⟩;refine⟨gQ,λq hq=>?_⟩;have s0:=ak hq (.lst []);have q0:(aN H q (.lst [])) q=⇑(.lst []):=af;generalize aN H q (.lst [])=H0 at s0 q0;refine⟨Y,r,[],rfl,⟨[],s0 _ _ vt,.nil⟩,by decide,λq1 H1 R1 s1 Rm=>?_⟩;let⟨as1,h1,p1⟩:=R1;have e1:as1=[]:=List.eq_nil_of_length_eq_zero p1.len;subst e1;refine⟨q1,[],rfl,h1,by decide,λl ms hl pm _=>?_⟩;have e2:ms=[]:=pm.eq_nil;subst e2;have s2:=s0.trans (s1.trans (ak hl (.lst [])));have eN:=(s1.trans (ak hl (.lst []))) _ _ q0;have Bu:(aN H1 l (.lst [])) l=⇑(.lst []):=af;show _;refine⟨l,rfl,⟨_,bG.of af⟩,dB (K:=K) (a:=l) (xs:=[]) (λi σ H2=>σ=[⇑↥r,⇑↥q,none,none]/\H2=aN H1 l (.lst [])) ⟨K⟩ (λi σ H2 _ ⟨_,e⟩=>by rw[e];exact bG.of Bu) ?_ ?_⟩
 ·rintro i x σ H2 hi;cases hi
 ·rintro σ H2 ⟨rfl,rfl⟩;exact⟨Y,k q _ eN s2 hq⟩
class inductive Uj
 | mk (r:Addr) (a b:Int) (_:vs=[.int a,.int b,↥r]) (_:H r=⇑(.lst [])) (_:∀ (q t:Addr) (H':Hp),H' q=⇑(.lst [↥t])->rD H' t (a,b)->aI H H'->H q=none->Q ↥q H')
theorem jt:aF ["start","stop","holes","told","left","hole"] ["start","stop","holes"] (az uM):=eO
theorem Es:‹(2,74,["start","stop","holes"],Uj)›:=λD=>by
 specialize eS D.abf.F jt;let⟨r,a,b,rfl,vt,k⟩:=h;exists _,(aj (aZ (i:=3) jt.nd (bL ah)) (aj (aZ (i:=4) jt.nd (pv 0)) (aj (aZ (i:=5) jt.nd (aH D.Xw (nF D) hr (aa (pv 2) (aa (pv 0) ah)))) (aj (qV PassesOwn.never (PW.pt (kO (aV jT (pv 5) (gp D.T.gg (pv 2)) (bh _)) (j6 (aV jT (aO aW (aO bu (pv 2) (pv 5)) ay) (pv 1) (bh _))))) (aj (aT (dQ qF jV jW bS (pv 3) (aa (cH (aa (pv 4) (aa (bY (lX rfl) rfl D.T.Ax PyProof.Rows.boot_max (aa (pv 4) (aa (aO aW (aO bu (pv 2) (pv 5)) ay) ah))) ah))) ah))) (aj (aZ (i:=4) jt.nd (bY (oG rfl) rfl D.T.Gb PyProof.Rows.boot_min (aa (aO aW (aO bu (pv 2) (pv 5)) ay) (aa (pv 1) ah)))) (au (ux (i:=5) jt.nd rfl (Or.inl rfl) ay Io))))) (aj (aT (dQ qF jV jW bS (pv 3) (aa (cH (aa (pv 4) (aa (pv 1) ah))) ah))) (au (aJ (pv 3))))))));refine⟨gQ,λq hq=>?_⟩;have s0:=ak hq (.lst []);have q0:(aN H q (.lst [])) q=⇑(.lst []):=af;generalize aN H q (.lst [])=H0 at s0 q0;have r0:=s0 _ _ vt;exists Y,Y,Y,r,a,rfl,r0;exists λm σ H2=>σ=[⇑(.int a),⇑(.int b),⇑↥r,⇑↥q,⇑(.int a),⇑(.int 0)]/\H2=H0,⟨0,K⟩;rintro m σ H2 ⟨rfl,rfl⟩;refine⟨Y,Y,r,Y,.inl (bG.of r0),Z,Y,cR (λc=>absurd c (by decide)) (λ_=>?_)⟩;refine eL ⟨Y,.inl ⟨rfl,_,bG.of q0⟩,Y,Y,oX,λt ht=>⟨q,Z,ak ht _ _ _ q0,(by show 0<sizeLine;decide),?_⟩⟩;refine⟨Y,k q t _ af ?_ (bH hq (s0.trans (ak ht _)) (aG q _ _)) hq⟩;show aN _ _ _ t=_;rw[aL (aA q0 ht).symm];exact af
class inductive JN
 | mk (r o:Addr) (row:Row) (_:vs=[↥r,↥o]) (_:bW H r row) (_:H o=⇑(.lst [])) (_:↑row<=1000) (_:∀ (q:Addr) (H':Hp),bW H' q (cy row)->aI H H'->H q=none->Q ↥q H')
theorem Dm:aF ["row","other","holes"] ["row","other"] (az vH):=eO
theorem JO:‹(3,75,["row","other"],JN)›:=λD=>by
 specialize eS D.abg.F Dm;let⟨r,o,row,rfl,R,O,HW,k⟩:=h;refine⟨_,(aj (aZ (i:=2) Dm.nd (aH D.abe (Nm D) hr (aa (pv 1) ah))) (au (aJ (aH D.Vc (mP D) hr (aa (xK (N:=["start","stop","piece","holes"]) (jI (sc:=az vH) (NX:=["row","other","holes"]) (jx:=[none,none,none,some 2]) rfl rfl rfl nofun nofun rfl nofun rfl nofun) rfl (cu (pv 0)) (λ_ _ _ _ _ _=>(sR (n:=2) rfl (bP (bQ (i:=0) (show List.Nodup (["start","stop","piece","holes"]:List Str) by decide +kernel)) (bP (bQ (i:=1) (show List.Nodup (["start","stop","piece","holes"]:List Str) by decide +kernel)) fX)))) (λ_ _ _ _ _ _=>fZ) (λ_ _ _ _ _ _=>(F0 (aH D.abf (Es D) hr (aa (pv 0) (aa (pv 1) (aa (pv 3) ah)))))) (λ_ _ _ _ _ _=>(bQ (i:=2) (show List.Nodup (["start","stop","piece","holes"]:List Str) by decide +kernel))) (λ_ _ _ _ _ _=>fZ) (λ_ _ _ _ _ _=>(pv 2))) ah))))),?_⟩;refine⟨Y,o,rfl,O,λS H1 RS s1 hS=>?_⟩;let⟨as,h1,p1⟩:=R.same s1;have n1:=p1.len;refine⟨Y,r,rfl,⟨_,bG.of h1⟩,λacc cP=>rE (K:=K) (a:=r) (xs:=as.map V.ref) (λi σ H2=>∃ (u v x:Option V) (ts:List Addr),σ=[u,v,x,⇑↥S]/\H2 acc=⇑(.lst (ts.map V.ref))/\bM H2 ts (row.take i)/\aI H1 H2) ⟨none,none,none,[],rfl,af,.nil,ak cP _⟩ (by rintro i σ H2 _ ⟨_,_,_,_,_,_,_,s2⟩;exact bG.of (s2 _ _ h1)) ?_ ?_⟩
 ·rintro i y σ H2 hi ⟨u,v,x,ts,rfl,h2,t2,s2⟩;rw[mY]at hi;let⟨a,ea,rfl⟩:=Option.map_eq_some_iff.mp hi;let⟨⟨st,en⟩,ep,hpa⟩:=p1.get ea;have tl:=t2.len;rw[gr]at tl;refine⟨a,Y,cW.of (s2 _ _ hpa),rfl,E,rfl,Z,yes (iX ?_)⟩;refine⟨Y,Y,Y,S,st,en,rfl,s2 _ _ RS,λq t H3 eN TQ s3 hq=>?_⟩;have h3:=s3 _ _ h2;have nqa:q≠acc:=(aA h2 hq).symm;refine⟨q,rfl,⟨_,bG.of eN⟩,Ao (K:=K) (a:=q) (acc:=acc) (g:=qU 2) (tt:=Mp) (te:=RG 2) (xs:=[↥t]) (λl σ H4=>∃ x2:Option V,σ=[⇑(.int st),⇑(.int en),x2,⇑↥S]/\H4 acc=⇑(.lst ((ts++[t].take l).map V.ref))/\bM H4 (ts++[t].take l) (row.take i++[(st,en)].take l)/\cz acc H3 H4/\aI H1 H4) ?_ ?_ ?_ ?_⟩
  ·exact⟨x,rfl,(by simpa using h3),(by simpa using t2.same s3),(λ_ _ e _=>e),s2.trans s3⟩
  ·rintro l σ H4 _ ⟨_,_,_,_,K4,_⟩;exact bG.of (K4 q _ eN nqa)
  ·rintro l y σ H4 hl ⟨x2,rfl,h4,t4,K4,s4⟩;have l0:l=0:=by have:=(List.getElem?_eq_some_iff.mp hl).1;simpa using this
   subst l0;cases hl
   have nta:t≠acc:=λz=>by
    have w:H3 acc=⇑(.tup [.int st,.int en]):=by rw[← z];exact TQ
    rw[h3]at w;cases w
   rw[List.take_zero,fV]at h4 t4;rw[List.take_zero,fV]at t4;have K5:cz acc H4 (aN H4 acc (.lst (ts.map V.ref++[↥t]))):=aG acc _ _;refine Ss (iX ⟨Y,_,h4,?_,Y,?_,?_,λa ob e n=>K5 a ob (K4 a ob e n) n,bH cP s4 K5⟩)
   ·rw[cB];exact aQ ∅
   ·rw[af];show _=⇑(HO.lst (List.map V.ref (ts++[t])));rw[gE];rfl
   ·exact bM.snoc (t4.keep h4 K5) (K5 t _ (K4 t _ TQ nta) nta)
  ·rintro σ H4 ⟨x2,rfl,h4,t4,K4,s4⟩;refine⟨Q,ts++[t],rfl,h4,?_,s4⟩;rw[take_snoc ep];exact t4
 ·rintro σ H2 ⟨u,v,x,ts,rfl,h2,t2,s2⟩;rw[cB,n1,gH]at t2;exact⟨acc,row,rfl,⟨ts,h2,t2⟩,by lia,λq H3 R3 s3 hq=>k q H3 R3 (s1.trans (s2.trans s3)) (aR (s1.trans s2) hq)⟩
class inductive Qo(C:Addr)
 | mk (S:Addr->Prop) (x d s o p:Addr) (n:Nat) (aK:gD) (j:Nat) (q:Int × Nat) (_:vs=[↥x,.int (j:Nat)]) (_:We C S H x d s o p n aK) (_:aK[j]?=⇑q) (_:Q (.int q.1) H)
theorem GS:aF ["self","address"] ["self","address"] (az uN):=eO
theorem Et:‹(3,77,["self","address"],(Qo CW))›:=λD=>by
 specialize eS D.abi.F GS;let⟨S,x,d,s,o,p,n,aK,j,q,rfl,W,eq,k⟩:=h;have jl:=(List.getElem?_eq_some_iff.mp eq).1;exists _,(aj (aT (cA (pv 0) D.gU D.Xx (jU D) hr bC (aa (pv 1) ah))) (au (aJ (aO bu (cC (pv 0) rfl) (pv 1)))));refine⟨Y,x,d,Y,W.hx,rfl,Y,S,x,d,s,o,p,n,aK,(j:Nat),rfl,W,by lia,by lia,?_⟩;exact⟨Y,x,CW,d,_,↥o,rfl,W.hx,D.gU.cl,D.sD,rfl,Y,o,Q,K,bG.of W.ho,(dm (by unfold II;rw[mY,eq];rfl):_=⇑(V.int q.1)),k⟩
class inductive Uk(C CS CW CB:Addr)
 | mk (U:Addr->Prop) (x:Addr) (pe:gS) (aB:gW) (aK:gD) (nW:Nat) (kd:Addr × Addr) (_:vs=[↥x]) (_:m7 C CS CW CB U H x pe aB aK nW ([],kd)) (_:∀ (q:Addr) (H':Hp),H' q=⇑(.lst [])->aI H H'->H q=none->Q ↥q H')
theorem yh:aF ["self"] ["self"] (az lg):=eO
theorem wI:‹(2,78,["self"],(Uk C CS CW CB))›:=λD=>by
 refine eS D.abj.F yh λcU A zn s0 H vs Q E hr h=>?_;let⟨U,x,pe,aB,aK,nW,kd,rfl,LB,k⟩:=h;let⟨S,SW,d,wl,sh,bl,kn,du,bk,dS,st,op,dw,sg,ow,pw,db,tb,ops,LU⟩:=id LB;exists _,(au (aJ (fc (cC (pv 0) rfl) D.qf D.abh (D5 D) hr bC)));refine⟨Y,x,C,d,_,↥bl,rfl,LU.L.hx,D.aM.cl,D.xx,rfl,bl,db,Y,LU.B,rfl,bl,db,tb,[],rfl,LU.B,LU.R,λq H1 R1 s1 fq=>?_⟩;let⟨as,h1,p1⟩:=R1;cases p1;exact k q H1 h1 s1 fq
def A3{p:dN × V}{k:dN}{v:V}:∀ {kvs:List (dN × V)},p∈dc kvs k v->p∈kvs\/(p.1=k/\p.2=v):=by
 intro kvs h;unfold dc at h;split at h
 ·let⟨q,hq,e⟩:=List.mem_map.mp h;split at e
  ·rename_i c;rw[← e];exact .inr ⟨c,rfl⟩
  ·rw[← e];exact .inl hq
 ·rcases List.mem_append.mp h with z|z
  ·exact .inl z
  ·rw[List.mem_singleton.mp z];exact .inr ⟨K⟩
def Yk{kvs:List (dN × V)}{k:dN}{v:V}(h:(kvs.map (·.1)).Nodup):((dc kvs k v).map (·.1)).Nodup:=by
 unfold dc;split
 ·rw[List.map_map,show ((λp:dN × V=>p.1) ∘ λkv=>if kv.1=k then (kv.1,v) else kv)=(·.1) from funext λp=>by show (if p.1=k then (p.1,v) else p).1=p.1;split <;> rfl]
  exact h
 ·rename_i c;rw[gE];refine List.nodup_append.mpr ⟨h,by simp,λa ha b hb e=>?_⟩;let⟨p,hp,e1⟩:=List.mem_map.mp ha;have e2:b=k:=List.mem_singleton.mp hb;exact c (List.any_eq_true.mpr ⟨p,hp,decide_eq_true (e1.trans (e.trans e2))⟩)
theorem Qp{a b:dN}:∀ {l:List dN},l.Nodup->(∀ k∈l,k=a\/k=b)->↑l<=2
 | [],_,_=>by simp
 | [_],_,_=>by simp
 | [_,_],_,_=>by simp
 | x::y::z::r,nd,h=>by
  have hx:=h x (by simp);have hy:=h y (by simp);have hz:=h z (by simp);simp only[List.nodup_cons,List.mem_cons,not_or]at nd;let⟨⟨n1,n2,_⟩,⟨n3,_⟩,_⟩:=nd
  rcases hx with rfl|rfl <;> rcases hy with rfl|rfl <;> rcases hz with rfl|rfl <;> first|exact absurd rfl n1|exact absurd rfl n2|exact absurd rfl n3
def Hd(h:Int):Prop:=h=3\/h=10^50
def JP(kvs:List (dN × V)):Prop:=(kvs.map (·.1)).Nodup/\∀ p∈kvs,∃ i j:Int,p=(.inl i,.int j)/\Hd i
def JP.len{kvs:List (dN × V)}(h:JP kvs):↑kvs<=2:=by
 have z:=Qp (a:=.inl 3) (b:=.inl (10^50)) h.1 λk hk=>by
  let⟨p,hp,rfl⟩:=List.mem_map.mp hk;let⟨i,j,rfl,e⟩:=h.2 p hp;exact e.imp (congrArg Sum.inl) (congrArg Sum.inl)
 rw[cB]at z;exact z
theorem JP.put{kvs:List (dN × V)}(h:JP kvs){i:Int}(e:Hd i)(j:Int):JP (dc kvs (.inl i) (.int j)):=⟨Yk h.1,λp hp=>(A3 hp).elim (h.2 p) λz=>⟨i,j,Prod.ext z.1 z.2,e⟩⟩
class inductive Ul(C CS CW CB:Addr)
 | mk (U:Addr->Prop) (x r:Addr) (pe:gS) (aB:gW) (aK:gD) (nW:Nat) (bV:Vl) (row:Row) (_:vs=[↥x,↥r]) (_:m7 C CS CW CB U H x pe aB aK nW bV) (_:bW H r row) (_:(∀ p∈row,p.1<=p.2)) (_:↑(bK row)<=100000) (_:∀ a∈bK row,∃ (j:Nat) (q:Int × Nat),a=(j:Nat)/\aK[j]?=⇑q/\Hd q.1) (_:∀ (l:Addr) (bs:List Addr) (Ek:Row) (H':Hp),H' l=⇑(.lst (bs.map V.ref))->bM H' bs Ek->↑bs<=2->aI H H'->H l=none->Q ↥l H')
theorem gu:aF ["self","row","counts","address","hand"] ["self","row"] (az jh):=eO
theorem rW:‹(4,79,["self","row"],(Ul C CS CW CB))›:=λD=>by
 refine eS D.abk.F gu λcU A zn s0 H vs Q E hr h=>?_;let⟨U,x,r,pe,aB,aK,nW,bV,row,rfl,LB,hr1,ok,ls,ia,k⟩:=h;have hu:=gT hr;let⟨S,SW,d,wl,sh,bl,kn,du,bk,dS,st,op,dw,sg,ow,pw,db,tb,ops,LU⟩:=id LB;exists _,(aj (aZ (i:=2) gu.nd ko) (aj (dX PassesOwn.never rfl (cu (aH D.Xj (vV D) hr (aa (pv 1) ah))) (bQ (i:=3) gu.nd) (aj (aZ (i:=4) gu.nd (cA (cC (pv 0) rfl) D.gU D.abi (Et D) hr bC (aa (pv 3) ah))) (au (lR hu (pv 2) (pv 4) (bz dH (FZ hu (pv 2) (pv 4) ay ⟨K,K⟩) ay) rfl)))) (au (aJ (bY (BD rfl) rfl D.T.Ge PyProof.Rows.boot_sorted (aa (IM PySem.F.plainAttrs_dict PySem.F.slot_dict_items PySem.F.type_dict_items MJ (pv 2)) ah))))));refine λc hc=>?_;have s0:=ak hc (.dK []);have c0:(aN H c (.dK [])) c=⇑(.dK []):=af;generalize aN H c (.dK [])=H0 at s0 c0;refine⟨Y,r,row,rfl,hr1.same s0,ok,by lia,λn H1 hn s1 fn=>?_⟩;have c1:=s1 _ _ c0;have s01:=s0.trans s1;refine⟨n,rfl,⟨_,bG.of hn⟩,dB (K:=K) (a:=n) (xs:=(bK row).map V.int) (λi σ H2=>∃ (u v:Option V) (kvs:List (dN × V)),σ=[⇑↥x,⇑↥r,⇑↥c,u,v]/\H2 c=⇑(.dK kvs)/\JP kvs/\cz c H1 H2/\aI H H2) ⟨none,none,[],rfl,c1,⟨.nil,λ_ z=>by cases z⟩,cz.refl _ _,s01⟩ (by rintro i σ H2 _ ⟨_,_,_,_,_,_,k2,_⟩;exact bG.of (k2 _ _ hn (cK hn c1))) ?_ ?_⟩
 ·rintro i y σ H2 hi ⟨u,v,kvs,rfl,HZ,cn,k2,s2⟩;rw[mY]at hi;let⟨a,ei,rfl⟩:=Option.map_eq_some_iff.mp hi;let⟨j,q,rfl,eq,hq⟩:=ia a (nJ ei);have wC:=LU.same s2;have cl:=cn.len;exists Y,x,C,d,_,↥wl,rfl,wC.L.hx,D.aM.cl,D.vI,rfl,wl,dw,Y,wC.W.hx,rfl,Y,SW,wl,dw,sg,ow,pw,nW,aK,j,q,rfl,wC.W,eq;have iS:∀ m:Int,∃ (u v:Option V) (ach:List (dN × V)),[⇑(V.ref x),⇑↥r,⇑↥c,⇑(.int (j:Nat)),⇑(.int q.1)]=[⇑↥x,⇑↥r,⇑↥c,u,v]/\(aN H2 c (.dK (dc kvs (.inl q.1) (.int m)))) c=⇑(.dK ach)/\JP ach/\cz c H1 (aN H2 c (.dK (dc kvs (.inl q.1) (.int m))))/\aI H (aN H2 c (.dK (dc kvs (.inl q.1) (.int m)))):=λm=>⟨Q,rfl,af,cn.put hq m,λa ob e n=>aG c _ _ a ob (k2 _ _ e n) n,bH hc s2 (aG c _ _)⟩;exists Y,c,rfl,.inl ⟨_,.inl HZ⟩,Y,_,jj.k (k:=Sum.inl q.1) HZ
  cases e:cL kvs (Sum.inl q.1) with
  | none=>exact⟨Z,Y,Y,c,Y,vM.k (k:=Sum.inl q.1) HZ (aQ ∅),iS _⟩
  | some v =>
   unfold cL at e;let⟨p,hp,rfl⟩:=Option.map_eq_some_iff.mp e;let⟨i,m,rfl,_⟩:=cn.2 p (List.mem_of_find?_eq_some hp);exact⟨Z,Y,Y,c,Y,vM.k (k:=Sum.inl q.1) HZ (aQ ∅),iS _⟩
 ·rintro σ H2 ⟨u,v,kvs,rfl,HZ,cn,k2,s2⟩;have cl:=cn.len;refine⟨Y,.inr (.inr (.inl ⟨rfl,.inl ⟨_,HZ⟩⟩)),c,kvs,K,HZ,λv hv=>?_⟩;refine⟨v,c,kvs,rfl,af,ak hv _ _ _ HZ,λp hp=>?_,by lia,λl bs Ek H3 hl s3 h3 p3 lb=>k l bs Ek H3 h3 p3 ∅ (s2.trans ((ak hv _).trans s3)) (aR (s2.trans (ak hv _)) hl)⟩;let⟨i,j,e,_⟩:=cn.2 p hp;exact⟨i,j,e⟩
class inductive Um(C:Addr)
 | mk (x d t a b:Addr) (g:Nat) (ks:List (dN × V)) (one AR:Row) (_:vs=[↥x,↥a,↥b]) (_:H x=⇑(.ins C d [("given",.int (g:Nat)),("pairs",↥t)])) (_:H t=⇑(.dK ks)) (_:↑ks<=1000) (_:∀ p∈ks,∃ i:Int,p.1=.inl i/\i<(g:Nat)) (_:bW H a one) (_:bW H b AR) (_:↑one<=1000) (_:AR.length<=1000) (_:∀ (ks':List (dN × V)) (H':Hp),H' x=⇑(.ins C d [("given",.int ((g+1:Nat):Int)),("pairs",↥t)])->H' t=⇑(.dK ks')->↑ks'<=↑ks+1->(∀ p∈ks',∃ i:Int,p.1=.inl i/\i<((g+1:Nat):Int))->(∀ a o,H a=⇑o->a≠x->a≠t->H' a=⇑o)->Q (.int (g:Nat)) H')
theorem A4:aF ["self","one","other","number"] ["self","one","other"] (az xh):=eO
theorem GU:‹(2,80,["self","one","other"],(Um CT))›:=λD=>by
 specialize eS D.abl.F A4;let⟨x,d,t,a,b,g,ks,one,AR,rfl,hx,ht,lk,kk,R1,R2,l1,l2,k⟩:=h;have hu:=gT hr;exists _,(aj (aZ (i:=3) A4.nd (cC (pv 0) rfl)) (aj (lR hu (cC (pv 0) rfl) (pv 3) (cH (aa (aH D.Vc (mP D) hr (aa (pv 1) ah)) (aa (aH D.Vc (mP D) hr (aa (pv 2) ah)) ah))) rfl) (aj (su (pv 0) ay Xc) (au (aJ (pv 3))))));exists Y,x,CT,d,_,.int (g:Nat),rfl,hx,D.ue.cl,D.xu,rfl;refine⟨Y,a,one,rfl,R1,by lia,λra H1 Q1 s1 f1=>?_⟩;refine⟨Y,b,AR,rfl,R2.same s1,by lia,λrb H2 Q2 s2 f2=>?_⟩;refine⟨oX,λp hp=>?_⟩;have s3:aI H2 (aN H2 p (.tup [↥ra,↥rb])):=ak hp _;generalize aN H2 p (.tup [↥ra,↥rb])=H3 at s3;have Bx:=s1.trans (s2.trans s3);have hx3:=Bx _ _ hx;have TQ:=Bx _ _ ht;refine⟨Y,x,CT,d,_,↥t,rfl,hx3,D.ue.cl,D.zY,rfl,Y,t,Y,vM.k (k:=Sum.inl ((g:Nat):Int)) TQ (aQ ∅),?_⟩;have Bp:x≠t:=cK hx3 TQ;have k4:cz t H3 (aN H3 t (.dK (dc ks (Sum.inl ((g:Nat):Int)) ↥p))):=aG t _ _;have YY:(aN H3 t (.dK (dc ks (Sum.inl ((g:Nat):Int)) ↥p))) t=⇑(.dK (dc ks (Sum.inl ((g:Nat):Int)) ↥p)):=af;generalize aN H3 t (.dK (dc ks (Sum.inl ((g:Nat):Int)) ↥p))=H4 at k4 YY;have hx4:=k4 _ _ hx3 Bp;refine⟨Y,x,CT,d,_,.int (g:Nat),rfl,hx4,D.ue.cl,D.xu,rfl,Z,d,_,hx4,(by show 2<1000;decide),?_⟩;refine⟨Y,k _ _ af (by rw[aL Bp.symm];exact YY) ?_ (λq hq=>?_) λy o e n m=>?_⟩
 ·exact gb ..
 ·rcases A3 hq with z|z
  ·let⟨i,e1,e2⟩:=kk q z;exact⟨i,e1,by lia⟩
  ·exact⟨_,z.1,by lia⟩
 ·rw[aL n];exact k4 _ _ (Bx _ _ e) m
class inductive Uo(C:Addr)
 | mk (x d t:Addr) (ds:List (dN × V)) (h:Int) (_:vs=[↥x,.int h]) (_:H x=⇑(.ins C d [("sums",↥t)])) (_:H t=⇑(.dK ds)) (_:∀ p∈ds,∃ i:Int,p.2=.int i) (_:∀ i:Int,Q (.int i) H)
class inductive Up(C:Addr)
 | mk (x d t:Addr) (ds:List (dN × V)) (h m:Int) (_:vs=[↥x,.int h,.int m]) (_:H x=⇑(.ins C d [("sums",↥t)])) (_:H t=⇑(.dK ds)) (_:↑ds<=100000) (_:∀ p∈ds,∃ i:Int,p.2=.int i) (_:∀ (Qq:List (dN × V)) (H':Hp),H' t=⇑(.dK Qq)->Qq.length<=↑ds+1->(∀ p∈Qq,∃ i:Int,p.2=.int i)->cz t H H'->Q .fT H')
theorem JQ:aF ["self","hand"] ["self","hand"] (az xj):=eO
theorem JR:aF ["self","hand","many"] ["self","hand","many"] (az xm):=eO
theorem GV:‹(1,81,["self","hand"],(Uo CD))›:=λD=>by
 specialize eS D.abm.F JQ;let⟨x,d,t,ds,g,rfl,hx,ht,iv,k⟩:=h;have hu:=gT hr;exists _,(au (aJ (FZ hu (cC (pv 0) rfl) (pv 1) ay ⟨K,K⟩)));exists Y,x,CD,d,_,↥t,rfl,hx,D.vS.cl,D.Cy,rfl,t,rfl,.inl ⟨_,.inl ht⟩,Y,_,jj.k (k:=Sum.inl g) ht
 cases e:cL ds (Sum.inl g) with
 | none=>exact k 0
 | some v =>
  unfold cL at e;let⟨p,hp,rfl⟩:=Option.map_eq_some_iff.mp e;let⟨i,ei⟩:=iv p (List.mem_of_find?_eq_some hp);rw[ei];exact k i
theorem GW:‹(2,82,["self","hand","many"],(Up CD))›:=λD=>by
 specialize eS D.abn.F JR;let⟨x,d,t,ds,g,m,rfl,hx,ht,ld,iv,k⟩:=h;have hu:=gT hr;exists _,(au (lR hu (cC (pv 0) rfl) (pv 1) (bz dH (cA (pv 0) D.vS D.abm (GV D) hr bC (aa (pv 1) ah)) (pv 2)) rfl));refine⟨Y,x,d,Y,hx,rfl,Y,x,d,t,ds,g,rfl,hx,ht,iv,λi=>⟨Y,Z,?_⟩⟩;refine⟨Y,x,CD,d,_,↥t,rfl,hx,D.vS.cl,D.Cy,rfl,Y,t,Y,vM.k (k:=Sum.inl g) ht (aQ ∅),?_⟩;exact k _ _ af (gb ..) (λp hp=>(A3 hp).elim (iv p) λz=>⟨_,z.2⟩) (aG t _ _)
def wA.Qs{U S SW:Addr->Prop}{H:Hp}{x d wl sh bl du bk st dw pw db t c:Addr}{pe:gS}{ops:List Int}{aB:gW}{aK:gD}{nW:Nat}{bV:Vl}{rows:cJ}{e:jo}{Q:VK}{E:XK}(LU:wA C CS CW CB U S SW H x d wl sh bl kn du bk dS st op dw sg ow pw db tb pe ops aB aK nW bV)(ht:e.At H t)(ok:e.Ok)(hc:H c=⇑(.lst []))(nc:c≠bk)(hl:pe.getLast?=⇑rows)(l1:↑rows<=50)(l2:↑pe<=900)(l3:↑aB<=900)(k:∀ (U':Addr->Prop) (H':Hp),m7 C CS CW CB U' H' x (pe++[rows]) (aB++[e.line]) aK nW bV->AV U U' H H'->Q .fT H'):Lu C CS [↥x,↥t,↥c] H Q E:=by
 have lp:↑(qO pe)=↑pe:=cB _;refine⟨S,x,d,wl,sh,bl,kn,du,bk,dS,st,op,qO pe,ops,aB,t,c,e,[],[],rows.map aC,rfl,LU.L,ht,ok,hc,nc,.nil,(λ_ z=>by cases z),jq hl,(λi ch e=>by cases e),(by show 0<=200;decide),by rw[cB];lia,by lia,by lia,λS' H3 L3 E5=>?_⟩
 have ep:qO pe++[oA (rows.map aC) []]=qO (pe++[rows]):=by
  show _=(pe++[rows]).map _;rw[gE];rfl
 have eo:ops++List.replicate (↑(oA (rows.map aC) [])-↑(rows.map aC)) ((↑(qO pe):Nat):Int)=ops:=by
  show ops++List.replicate (↑(rows.map aC)-↑(rows.map aC)) _=ops;rw[Nat.sub_self];exact fV _
 rw[ep,eo]at L3;let⟨U',hL',f'⟩:=LU.wB L3 E5;exact k U' H3 hL' f'
def Eu(U U' T:Addr->Prop)(H H':Hp):Prop:=(∀ a,U' a->U a\/H a=none)/\(∀ a ob,H a=⇑ob->¬ U a->¬ T a->H' a=⇑ob)/\∀ a xs,H a=⇑(.tup xs)->H' a=⇑(.tup xs)
theorem AV.t{U U' T:Addr->Prop}{H H':Hp}(f:AV U U' H H'):Eu U U' T H H':=⟨f.1,λa ob e n _=>f.2.1 a ob e n,f.2.2⟩
theorem Eu.more{U U' T T':Addr->Prop}{H H':Hp}(f:Eu U U' T H H'):Eu U U' (λa=>T a\/T' a) H H':=⟨f.1,λa ob e n m=>f.2.1 a ob e n λz=>m (.inl z),f.2.2⟩
def Eu.trans{U U1 U2 T:Addr->Prop}{H H1 H2:Hp}(f:Eu U U1 T H H1)(g:Eu U1 U2 T H1 H2)(al:∀ a,T a->∃ ob,H1 a=⇑ob):Eu U U2 T H H2:=by
 have no:∀ a ob,H a=⇑ob->¬ U a->¬ U1 a:=λa ob e n z=>by
  rcases f.1 a z with y|y
  ·exact n y
  ·rw[y]at e;cases e
 refine⟨λa z=>?_,λa ob e n m=>g.2.1 _ _ (f.2.1 _ _ e n m) (no a ob e n) m,λa xs e=>g.2.2 _ _ (f.2.2 _ _ e)⟩;rcases g.1 a z with y|y
 ·exact f.1 a y
 cases e:H a with
 | none=>exact .inr rfl
 | some ob =>
  by_cases u:U a
  ·exact .inl u
  by_cases t:T a
  ·let⟨_,e2⟩:=al a t;rw[y]at e2;cases e2
  ·rw[f.2.1 _ _ e u t]at y;cases y
def qp.fr{V:Addr->Prop}{H H':Hp}{du:Addr}{n:Nat}(h:qp CT CD V H kn du n)(k:∀ a ob,H a=⇑ob->V a->H' a=⇑ob):qp CT CD V H' kn du n:=by
 let⟨dk,t,dd,u,g,ks,ds,a1,a2,a3,a4,v1,v2,v3,v4,m1,m2,m3,m4,m5,m6,kl,dl,kk,iv,ev⟩:=h;exact⟨dk,t,dd,u,g,ks,ds,k _ _ a1 v1,k _ _ a2 v2,k _ _ a3 v3,k _ _ a4 v4,v1,v2,v3,v4,m1,m2,m3,m4,m5,m6,kl,dl,kk,iv,ev⟩
def qp.al{V:Addr->Prop}{H:Hp}{du a:Addr}{n:Nat}(h:qp CT CD V H kn du n)(z:V a):∃ ob,H a=⇑ob:=by
 let⟨dk,t,dd,u,g,ks,ds,a1,a2,a3,a4,v1,v2,v3,v4,_,_,_,_,_,_,_,_,_,_,r⟩:=h;rcases r a z with rfl|rfl|rfl|rfl
 ·exact⟨_,a1⟩
 ·exact⟨_,a2⟩
 ·exact⟨_,a3⟩
 ·exact⟨_,a4⟩
class inductive Qt(C CS CW CB CT CD:Addr)
 | mk (U T:Addr->Prop) (x a b kn du:Addr) (pe:gS) (aB:gW) (aK:gD) (nW n:Nat) (rows:cJ) (_:vs=[↥x,↥a,↥b]) (_:m7 C CS CW CB U H x pe aB aK nW ([],kn,du)) (_:qp CT CD T H kn du n) (_:∀ a,U a->¬ T a) (_:H a=⇑(.lst [])) (_:H b=⇑(.lst [])) (_:a≠b) (_:¬ U a/\¬ T a) (_:¬ U b/\¬ T b) (_:pe.getLast?=⇑rows) (_:↑rows<=50) (_:↑pe<=900) (_:↑aB<=900) (_:n<=900) (_:∀ (U':Addr->Prop) (H':Hp) (dh:gW) (v:V),↑dh=↑aB+1->m7 C CS CW CB U' H' x (pe++[rows]) dh aK nW ([],kn,du)->qp CT CD T H' kn du (n+1)->Eu U U' T H H'->Q v H')
theorem uq:aF ["self","one","other","number"] ["self","one","other"] (az pW):=eO
theorem A5:‹(4,83,["self","one","other"],(Qt C CS CW CB CT CD))›:=λD=>by
 refine eS D.abo.F uq λcU A zn s0 H vs Q E hr h=>?_;let⟨U,T,x,a,b,kn,du,pe,aB,aK,nW,n,rows,rfl,LB,ex,dj,ha,hb,nab,na,nb,hl,l1,l2,l3,n9,k⟩:=h;let⟨S,SW,d,wl,sh,bl,GX,JS,bk,dS,st,op,dw,sg,ow,pw,db,tb,ops,LU⟩:=id LB;let⟨_,e1,e2⟩:=LU.T9;obtain rfl:GX=kn:=e1;obtain rfl:JS=du:=e2;exists _,(aj (aT (cA (pv 0) D.aM D.Tc (gR D) hr bC (aa (pv 1) ah))) (aj (aT (cA (pv 0) D.aM D.Tc (gR D) hr bC (aa (pv 2) ah))) (aj (aZ (i:=3) uq.nd (cA (cC (pv 0) rfl) D.ue D.abl (GU D) hr bC (aa (pv 1) (aa (pv 2) ah)))) (aj (aT (cA (pv 0) D.aM D.Ph (iL D) hr bC (aa (cH (aa bI (aa (pv 1) (aa (pv 2) ah)))) (aa (bL ah) ah)))) (au (aJ (pv 3)))))));refine⟨Y,x,d,Y,LU.L.hx,rfl,Y,U,x,a,pe,aB,aK,nW,_,[],rfl,LB,⟨[],ha,.nil⟩,by decide,rfl,λH1 s1=>?_⟩;have LU1:=LU.same s1;refine⟨Y,x,d,Y,LU1.L.hx,rfl,Y,U,x,b,pe,aB,aK,nW,_,[],rfl,LB.same s1,⟨[],s1 _ _ hb,.nil⟩,by decide,rfl,λH2 s2=>?_⟩;have mZ:=s1.trans s2;have wC:=LU.same mZ;let⟨dk,t,dd,u,g,ks,ds,x1,x2,x3,x4,v1,v2,v3,v4,m1,m2,m3,m4,m5,m6,kl,dl,kk,iv,ev⟩:=ex;refine⟨Y,x,C,d,_,↥GX,rfl,wC.L.hx,D.aM.cl,D.zZ,rfl,GX,dk,Y,mZ _ _ x1,rfl,Y,Y,GX,dk,t,a,b,g,ks,[],[],rfl,mZ _ _ x1,mZ _ _ x2,by lia,kk,⟨[],mZ _ _ ha,.nil⟩,⟨[],mZ _ _ hb,.nil⟩,by decide,by decide,λks' H3 y1 y2 kl' kk' E5=>?_⟩;have k3:∀ a ob,H a=⇑ob->a≠GX->a≠t->H3 a=⇑ob:=λa ob e n1 n2=>E5 _ _ (mZ _ _ e) n1 n2;have nT:∀ {a:Addr},¬ T a->a≠GX/\a≠t:=λz=>⟨λy=>z (by rw[y];exact v1),λy=>z (by rw[y];exact v2)⟩;have t3:∀ a xs,H a=⇑(.tup xs)->H3 a=⇑(.tup xs):=λa xs e=>k3 _ _ e (cK e x1) (cK e x2);have NV:=LU.fr (λa ob e z=>k3 _ _ e (nT (dj a z)).1 (nT (dj a z)).2) t3;have a3:=k3 _ _ ha (nT na.2).1 (nT na.2).2;have b3:=k3 _ _ hb (nT nb.2).1 (nT nb.2).2;refine⟨Y,x,d,Y,NV.L.hx,rfl,Y,Y,F9,λp hp=>⟨gQ,λc hc=>?_⟩⟩;have s4:=ak hp (.tup [.str "tie",↥a,↥b]);have p4:(aN H3 p (.tup [.str "tie",↥a,↥b])) p=⇑(.tup [.str "tie",↥a,↥b]):=af;generalize aN H3 p (.tup [.str "tie",↥a,↥b])=H4 at s4 p4 hc;have s5:=ak hc (.lst []);have c5:(aN H4 c (.lst [])) c=⇑(.lst []):=af
 have nc:c≠bk:=λz=>by
  have:=s4 _ _ NV.L.hb;rw[← z,hc]at this;cases this
 generalize aN H4 c (.lst [])=H5 at s5 c5;have Rt:=s4.trans s5;refine (NV.same Rt).Qs (e:=.Gx [] []) ⟨a,b,s5 _ _ p4,⟨[],Rt _ _ a3,.nil⟩,⟨[],Rt _ _ b3,.nil⟩,nab⟩ ⟨⟨by decide,λ_ z=>by cases z⟩,⟨by decide,λ_ z=>by cases z⟩⟩ c5 nc hl l1 l2 l3 λU' H6 L6 f6=>?_;have f05:Eu U U T H H5:=⟨λa z=>.inl z,λa ob e _ n=>Rt _ _ (k3 _ _ e (nT n).1 (nT n).2),λa xs e=>Rt _ _ (t3 _ _ e)⟩;have o6:∀ {a ob},H3 a=⇑ob->T a->H6 a=⇑ob:=λe z=>f6.2.1 _ _ (Rt _ _ e) λy=>dj _ y z;refine⟨Y,k U' H6 _ _ (by rw[cT];rfl) L6 ⟨dk,t,dd,u,g+1,ks',ds,o6 y1 v1,o6 y2 v2,o6 (k3 _ _ x3 m2.symm m4.symm) v3,o6 (k3 _ _ x4 m3.symm m5.symm) v4,v1,v2,v3,v4,m1,m2,m3,m4,m5,m6,by lia,by lia,kk',iv,ev⟩ (f05.trans f6.t λa z=>?_)⟩;rcases ev a z with rfl|rfl|rfl|rfl
 ·exact⟨_,Rt _ _ y1⟩
 ·exact⟨_,Rt _ _ y2⟩
 ·exact⟨_,Rt _ _ (k3 _ _ x3 m2.symm m4.symm)⟩
 ·exact⟨_,Rt _ _ (k3 _ _ x4 m3.symm m5.symm)⟩
abbrev rdW:List Nat:=(Str.ofString "read").cps.toList
class inductive Qu(C CS CW CB CT CD:Addr)
 | mk (U T:Addr->Prop) (x kn du:Addr) (pe:gS) (aB:gW) (aK:gD) (nW n:Nat) (rows:cJ) (s:Int) (sh:Int->List Int) (_:vs=[↥x,.int s]) (_:m7 C CS CW CB U H x pe aB aK nW ([],kn,du)) (_:qp CT CD T H kn du n) (_:∀ a,U a->¬ T a) (_:pe.getLast?=⇑rows) (_:↑rows<=50) (_:↑pe<=800) (_:↑aB<=900) (_:n<=900) (_:qM ↑rows s) (_:Seen rows sh) (_:↑(sh s)<=200) (_:∀ a∈sh s,∃ (j:Nat) (q:Int × Nat),a=(j:Nat)/\aK[j]?=⇑q/\Hd q.1) (_:∀ (U':Addr->Prop) (H':Hp) (dh:gW) (v:V),↑dh=↑aB+1->m7 C CS CW CB U' H' x (pe++[rows]) dh aK nW ([],kn,du)->qp CT CD T H' kn du (n+1)->Eu U U' T H H'->Q v H')
theorem jO:aF ["self","sheet","bare","hand","many"] ["self","sheet"] (az nV):=eO
theorem zd:‹(7,84,["self","sheet"],(Qu C CS CW CB CT CD))›:=λD=>by
 refine eS D.abp.F jO λcU A zn s0 H vs Q E hr h=>?_;let⟨U,T,x,kn,du,pe,aB,aK,nW,n,rows,s,sh,rfl,LB,ex,dj,hl,l1,l2,l3,n9,is,sn,ls,hin,k⟩:=h;let⟨S,SW,d,wl,shf,bl,GX,JS,bk,dS,st,op,dw,sg,ow,pw,db,tb,ops,LU⟩:=id LB;let⟨_,e1,e2⟩:=LU.T9;obtain rfl:GX=kn:=e1;obtain rfl:JS=du:=e2;exists _,(aj (aZ (i:=2) jO.nd (aH D.abg (JO D) hr (aa (cA (pv 0) D.aM D.MM (gz D) hr bC (aa (pv 1) ah)) (aa (fc (pv 0) D.aM D.abj (wI D) hr bC) ah)))) (aj (dX PassesOwn.never rfl (cu (cA (pv 0) D.aM D.abk (rW D) hr bC (aa (pv 2) ah))) (kQ (n:=2) rfl (bP (bQ (i:=3) jO.nd) (bP (bQ (i:=4) jO.nd) fX))) (au (aT (cA (cC (pv 0) rfl) D.vS D.abn (GW D) hr bC (aa (pv 3) (aa (pv 4) ah)))))) (aj (aT (cA (pv 0) D.aM D.Ph (iL D) hr bC (aa (cH (aa bI (aa (pv 1) ah))) (aa (bL ah) ah)))) (au (aJ (cA (pv 0) D.aM D.abd (zc D) hr bC (aa (pv 1) ah)))))));refine⟨Y,x,d,Y,LU.L.hx,rfl,Y,S,x,d,wl,shf,bl,GX,JS,bk,dS,st,op,pe,ops,aB,rows,s,rfl,LU.L,hl,l1,by lia,is,⟨sh,sn,λo H1 ho s1 fo=>?_⟩⟩;have LU1:=LU.same s1;refine⟨Y,x,d,Y,LU1.L.hx,rfl,U,x,pe,aB,aK,nW,(GX,JS),rfl,LB.same s1,λq H2 hq s2 fq=>?_⟩;have rl:=j5 (sh s);refine⟨o,q,cF (sh s),rfl,ho.same s2,hq,by lia,λr H3 Jv s3 E5=>?_⟩;have Bx:=s1.trans (s2.trans s3);have NV:=LU.same Bx;have pr:cy (cF (sh s))=cF (sh s):=by rw[vK _ (jH _),dz]
 rw[pr]at Jv;refine⟨Y,x,d,Y,NV.L.hx,rfl,Y,U,x,r,pe,aB,aK,nW,_,cF (sh s),rfl,LB.same Bx,Jv,jH _,by rw[dz];lia,by rw[dz];exact hin,λl bs Ek H4 hl4 p4 lb s4 fl=>?_⟩;have NU:=Bx.trans s4;let⟨dk,t,dd,u,g,ks,ds,x1,x2,x3,x4,v1,v2,v3,v4,m1,m2,m3,m4,m5,m6,kl,dl,kk,iv,ev⟩:=ex;have u4:=NU _ _ x4;have nlu:l≠u:=cK hl4 u4;refine⟨l,rfl,⟨_,bG.of hl4⟩,dB (K:=K) (a:=l) (xs:=bs.map V.ref) (λi σ H5=>∃ (y z:Option V) (Qq:List (dN × V)),σ=[⇑↥x,⇑(.int s),⇑↥r,y,z]/\H5 u=⇑(.dK Qq)/\Qq.length<=↑ds+i/\(∀ p∈Qq,∃ i:Int,p.2=.int i)/\cz u H4 H5) ⟨none,none,ds,rfl,u4,fK _,iv,cz.refl _ _⟩ (by rintro i σ H5 _ ⟨_,_,_,_,_,_,_,k5⟩;exact bG.of (k5 _ _ hl4 nlu)) ?_ ?_⟩
 ·rintro i y σ H5 hi ⟨y1,z1,Qq,rfl,hu5,dl',iv',k5⟩;rw[mY]at hi;let⟨a,ea,rfl⟩:=Option.map_eq_some_iff.mp hi;have il:=(List.getElem?_eq_some_iff.mp ea).1;let⟨⟨h,m⟩,ep,hpa⟩:=p4.get ea;have ha5:=k5 _ _ hpa (cK hpa u4);have x5:=k5 _ _ (NU _ _ LU.L.hx) (cK LU.L.hx x4);have d5:=k5 _ _ (NU _ _ x3) m6;exists a,Y,cW.of ha5,rfl,E,rfl,Z;refine⟨Y,x,C,d,_,↥JS,rfl,x5,D.aM.cl,D.Fy,rfl,JS,dd,Y,d5,rfl,Y,Y,JS,dd,u,Qq,h,m,rfl,d5,hu5,by lia,iv',λds2 H6 h6 l6 iv6 k6=>?_⟩;exact⟨E,ds2,rfl,h6,by lia,iv6,k5.trans k6⟩
 ·rintro σ H5 ⟨y1,z1,Qq,rfl,hu5,dl',iv',k5⟩;rw[cB]at dl';have JL:cz u H H5:=λa ob e n=>k5 _ _ (NU _ _ e) n;have nTu:∀ {a:Addr},¬ T a->a≠u:=λz y=>z (by rw[y];exact v4);have t5:∀ a xs,H a=⇑(.tup xs)->H5 a=⇑(.tup xs):=λa xs e=>JL _ _ e (cK e x4);have Vw:=LU.fr (λa ob e z=>JL _ _ e (nTu (dj a z))) t5;refine⟨Y,x,d,Y,Vw.L.hx,rfl,Y,oX,λp hp=>⟨gQ,λc hc=>?_⟩⟩;have s6:=ak hp (.tup [.str "read",.int s]);have p6:(aN H5 p (.tup [.str "read",.int s])) p=⇑(.tup [.str "read",.int s]):=af;generalize aN H5 p (.tup [.str "read",.int s])=H6 at s6 p6 hc;have s7:=ak hc (.lst []);have c7:(aN H6 c (.lst [])) c=⇑(.lst []):=af
  have nc:c≠bk:=λz=>by
   have:=s6 _ _ Vw.L.hb;rw[← z,hc]at this;cases this
  generalize aN H6 c (.lst [])=H7 at s7 c7;have Vx:=s6.trans s7;have i1:=is.1;have i2:=is.2;refine (Vw.same Vx).Qs (e:=.plain rdW [s]) (by show H7 p=_;rw[s7 _ _ p6];kernel_rfl) ⟨(by show kK PX rdW=some 1;decide +kernel),λy hy=>by rw[List.mem_singleton.mp hy];exact⟨i1,by lia⟩⟩ c7 nc hl l1 ∅ l3 λU' H8 L8 f8=>?_;have f07:Eu U U T H H7:=⟨λa z=>.inl z,λa ob e _ n=>Vx _ _ (JL _ _ e (nTu n)),λa xs e=>Vx _ _ (t5 _ _ e)⟩
  have al7:∀ a,T a->∃ ob,H7 a=⇑ob:=λa z=>by
   rcases ev a z with rfl|rfl|rfl|rfl
   ·exact⟨_,Vx _ _ (JL _ _ x1 m3)⟩
   ·exact⟨_,Vx _ _ (JL _ _ x2 m5)⟩
   ·exact⟨_,Vx _ _ (JL _ _ x3 m6)⟩
   ·exact⟨_,Vx _ _ hu5⟩
  have o8:∀ {a ob},H5 a=⇑ob->T a->H8 a=⇑ob:=λe z=>f8.2.1 _ _ (Vx _ _ e) λy=>dj _ y z;have ex8:qp CT CD T H8 GX JS (n+1):=⟨dk,t,dd,u,g,ks,Qq,o8 (JL _ _ x1 m3) v1,o8 (JL _ _ x2 m5) v2,o8 (JL _ _ x3 m6) v3,o8 hu5 v4,v1,v2,v3,v4,m1,m2,m3,m4,m5,m6,by lia,by lia,kk,iv',ev⟩;let⟨S8,SW8,d8,wl8,amB,bl8,kn8,du8,bk8,dS8,NJ,op8,dw8,sg8,ow8,pw8,db8,tb8,amC,LU8⟩:=id L8;refine⟨Y,x,d8,Y,LU8.L.hx,rfl,Y,U',x,pe++[rows],_,aK,nW,(GX,JS),rows,s,sh,rfl,L8,by simp,by rw[cT];simp only[jS,lM];lia,l1,is,sn,ls,(λa ha=>?_),λH9 s9=>?_⟩
  ·let⟨j,q,rfl,eq,_⟩:=hin a ha;have:=(List.getElem?_eq_some_iff.mp eq).1;exact⟨by lia,by lia⟩
  ·exact k U' H9 _ _ (by rw[cT];rfl) (L8.same s9) (ex8.fr λa ob e _=>s9 _ _ e) ((f07.trans f8.t al7).trans (AV.same s9).t λa z=>ex8.al z)
def Ew{α β:Type}{F:α->β->Prop}{xs:List α}{ys:List β}{x:α}{y:β}(h:Paired F xs ys)(e:F x y):Paired F (xs++[x]) (ys++[y]):=by
 induction h with
 | nil=>exact .cons e .nil
 | cons r _ ih=>exact .cons r ih
def BS{α β:Type}{F:α->β->Prop}{xs xs':List α}{ys ys':List β}(h:Paired F xs ys)(t:Paired F xs' ys'):Paired F (xs++xs') (ys++ys'):=by
 induction h with
 | nil=>exact t
 | cons e _ ih=>exact .cons e ih
def GY(H:Hp)(a:Addr)(q:Int × Nat):Prop:=H a=⇑(.tup [.int q.1,By q.2])
inductive Ex(H:Hp)(v:Addr)(aK:gD):Prop
 | mk (as:List Addr) (_:H v=⇑(.lst (as.map V.ref))) (_:Paired (GY H) as aK)
abbrev kI:dN:=.inr (Str.ofString "ink")
abbrev kR:dN:=.inr (Str.ofString "rows")
abbrev kP:dN:=.inr (Str.ofString "past")
abbrev kVl:dN:=.inr (Str.ofString "veil")
abbrev qR(ik rw ps vl:Addr):List (dN × V):=[(kI,↥ik),(kR,↥rw),(kP,↥ps),(kVl,↥vl)]
def Vy(W:Addr->Prop)(ik ps:Addr)(H:Hp)(v:V)(es:List Int):Prop:=∃ b,v=↥b/\W b/\b≠ik/\b≠ps/\H b=⇑(.lst (es.map V.int))
def Nn(W:Addr->Prop)(ik ps:Addr)(H:Hp)(a:Addr)(rows:cJ):Prop:=W a/\a≠ik/\a≠ps/\∃ vs,H a=⇑(.lst vs)/\cj (Vy W ik ps H) vs rows
structure Lv(W:Addr->Prop)(H:Hp)(w ik rw ps vl:Addr)(aK:gD)(pe:gS)(rows:cJ):Prop where
 ww:W w
 wi:W ik
 wp:W ps
 wv:W vl
 al:∀ a,W a->∃ ob,H a=⇑ob
 hw:H w=⇑(.dK (qR ik rw ps vl))
 hi:Ex H ik aK
 hr:Nn W ik ps H rw rows
 hp:∃ vs,H ps=⇑(.lst vs)/\↑vs=↑pe
 ne:ik≠ps
def Wo(W:Addr->Prop)(H:Hp)(w:Addr)(aK:gD)(pe:gS)(rows:cJ):Prop:=∃ ik rw ps vl,Lv W H w ik rw ps vl aK pe rows
theorem Vy.fr{W W':Addr->Prop}{H H':Hp}{v:V}{es:List Int}(s:∀ a,W a->W' a)(k:∀ a xs,H a=⇑(.lst xs)->W a->a≠ik->a≠ps->H' a=⇑(.lst xs)):Vy W ik ps H v es->Vy W' ik ps H' v es:=λ⟨b,e,w,n1,n2,h⟩=>⟨b,e,s _ w,n1,n2,k _ _ h w n1 n2⟩
theorem Nn.fr{W W':Addr->Prop}{H H':Hp}{a:Addr}{rows:cJ}(s:∀ a,W a->W' a)(k:∀ a xs,H a=⇑(.lst xs)->W a->a≠ik->a≠ps->H' a=⇑(.lst xs)):Nn W ik ps H a rows->Nn W' ik ps H' a rows:=λ⟨w,n1,n2,vs,h,al⟩=>⟨s _ w,n1,n2,vs,k _ _ h w n1 n2,al.mono λ_ _=>Vy.fr s k⟩
def Ex.two{H H':Hp}{v:Addr}{aK:gD}(h:Ex H v aK)(k:∀ xs,H v=⇑(.lst xs)->H' v=⇑(.lst xs))(t:∀ a xs,H a=⇑(.tup xs)->H' a=⇑(.tup xs)):Ex H' v aK:=by
 let⟨as,hv,pa⟩:=h;exact⟨as,k _ hv,Paired.Ig pa λa q e=>t _ _ e⟩
def Lv.fr{W:Addr->Prop}{H H':Hp}{w rw:Addr}{aK:gD}{pe:gS}{rows:cJ}(h:Lv W H w ik rw ps vl aK pe rows)(k:∀ a ob,H a=⇑ob->W a->H' a=⇑ob)(t:∀ a xs,H a=⇑(.tup xs)->H' a=⇑(.tup xs)):Lv W H' w ik rw ps vl aK pe rows:=by
 let⟨ww,wi,wp,wv,al,hw,hi,hr,⟨vs,hp,a2⟩,ne⟩:=h;refine⟨ww,wi,wp,wv,λa z=>?_,k _ _ hw ww,hi.two (λxs e=>k _ _ e wi) t,hr.fr (λ_ z=>z) (λa xs e z _ _=>k _ _ e z),⟨vs,k _ _ hp wp,a2⟩,ne⟩;let⟨ob,e⟩:=al a z;exact⟨ob,k _ _ e z⟩
def Wo.fr{W:Addr->Prop}{H H':Hp}{w:Addr}{aK:gD}{pe:gS}{rows:cJ}(h:Wo W H w aK pe rows)(k:∀ a ob,H a=⇑ob->W a->H' a=⇑ob)(t:∀ a xs,H a=⇑(.tup xs)->H' a=⇑(.tup xs)):Wo W H' w aK pe rows:=by
 let⟨ik,rw,ps,vl,z⟩:=h;exact⟨ik,rw,ps,vl,z.fr k t⟩
def Lw:Sp:=λvs H Q _=>vs=[]/\∀ (W:Addr->Prop) (w:Addr) (H':Hp),Wo W H' w [] [[]] []->(∀ a,W a->H a=none)->aI H H'->Q ↥w H'
theorem Ey:aF [] [] (az nj):=eO
theorem ack{X:Cx}{s1 s2 s3 s4:Str}{a1 a2 a3 a4:Nat}{p1 p2 p3 p4 pos:Pos}{v1 v2 v3 v4:Expr}{t1 t2 t3 t4:TE}(h1:PE X v1 t1)(h2:PE X v2 t2)(h3:PE X v3 t3)(h4:PE X v4 t4) :
  PE X (.Dict [⇑(.Constant (.str s1) a1 p1),⇑(.Constant (.str s2) a2 p2),⇑(.Constant (.str s3) a3 p3),⇑(.Constant (.str s4) a4 p4)] [v1,v2,v3,v4] pos) (OW [(tC (.str s1),t1),(tC (.str s2),t2),(tC (.str s3),t3),(tC (.str s4),t4)]) :=
 SG (vN bI h1 (vN bI h2 (vN bI h3 (vN bI h4 SE)))) rfl rfl (by simp) (by show 4<=15;decide)
abbrev tWo:TE:=OW [(tC (.str "ink"),L0 zQ),(tC (.str "rows"),L0 zQ),(tC (.str "past"),L0 (Oe (L0 zQ) zQ)),(tC (.str "veil"),L0 zQ)]
theorem Qv:∃ (e:Expr) (p:Pos),jD nj=[.Return (⇑e) p]/\∀ X:Cx,PE X e tWo :=
 ⟨E,rfl,λX=>@ack X _ _ _ _ _ _ _ _ _ _ _ _ _ _ _ _ _ _ _ _ _ (bL ah) (bL ah) (bL (aa (bL ah) ah)) (bL ah)⟩
theorem Ez:‹(1,85,[],Lw)›:=λD=>by
 specialize eS D.Te.F Ey;let⟨rfl,k⟩:=h;let⟨e,p,he,pw⟩:=Qv;rw[he];exists _,au (aJ (pw _));intro w hw;refine⟨gQ,λik Np=>⟨gQ,λrw hrw=>⟨gQ,λz hz=>⟨ku,λps Uq=>⟨gQ,λvl Yl=>?_⟩⟩⟩⟩⟩;have s0:=ak hw (.dK []);have w0:(aN H w (.dK [])) w=⇑(.dK []):=af;generalize aN H w (.dK [])=H0 at s0 w0 Np hrw hz Uq Yl;have s1:=ak Np (.lst []);have i1:(aN H0 ik (.lst [])) ik=⇑(.lst []):=af;generalize aN H0 ik (.lst [])=H1 at s1 i1 hrw hz Uq Yl;have s2:=ak hrw (.lst []);have r2:(aN H1 rw (.lst [])) rw=⇑(.lst []):=af;generalize aN H1 rw (.lst [])=H2 at s2 r2 hz Uq Yl;have s3:=ak hz (.lst []);have z3:(aN H2 z (.lst [])) z=⇑(.lst []):=af;generalize aN H2 z (.lst [])=H3 at s3 z3 Uq Yl;have s4:=ak Uq (.lst [↥z]);have p4:(aN H3 ps (.lst [↥z])) ps=⇑(.lst [↥z]):=af;generalize aN H3 ps (.lst [↥z])=H4 at s4 p4 Yl;have s5:=ak Yl (.lst []);have v5:(aN H4 vl (.lst [])) vl=⇑(.lst []):=af;generalize aN H4 vl (.lst [])=H5 at s5 v5;have JI:aI H1 H5:=s2.trans (s3.trans (s4.trans s5));have s05:aI H0 H5:=s1.trans JI;have w5:=s05 _ _ w0;have i5:=JI _ _ i1;have r5:=(s3.trans (s4.trans s5)) _ _ r2;have z5:=(s4.trans s5) _ _ z3;have p5:=s5 _ _ p4;have nl:∀ {a:Addr} {xs:List V},H5 a=⇑(.lst xs)->a≠w:=λ{a xs} e q=>by rw[q,w5]at e;cases e
 have n1:rw≠ik:=(aA i1 hrw).symm;have n2:rw≠ps:=aA (s3 _ _ r2) Uq;have n3:z≠ik:=(aA (s2 _ _ i1) hz).symm;have n4:z≠ps:=aA z3 Uq;have n5:ik≠ps:=aA ((s2.trans s3) _ _ i1) Uq;refine⟨w5,qR ik rw ps vl,rfl,(by show 4<=15;decide),?_⟩;rw[show xE [] (qR ik rw ps vl)=qR ik rw ps vl by kernel_rfl];have up:∀ {a:Addr} {xs:List V},H5 a=⇑(.lst xs)->(aN H5 w (.dK (qR ik rw ps vl))) a=⇑(.lst xs):=λ{a xs} e=>by rw[aL (nl e)];exact e
 have f0:∀ a,H0 a=none->H a=none:=λa e=>aR s0 e;refine k (λa=>a=w\/a=ik\/a=rw\/a=z\/a=ps\/a=vl) w _ ⟨ik,rw,ps,vl,.inl rfl,.inr (.inl rfl),.inr (.inr (.inr (.inr (.inl rfl)))),.inr (.inr (.inr (.inr (.inr rfl)))),λa e=>?_,af,⟨[],up i5,.nil⟩,⟨.inr (.inr (.inl rfl)),n1,n2,[],up r5,.nil⟩,⟨[↥z],up p5,rfl⟩,n5⟩ (λa e=>?_) (bH hw (s0.trans s05) (aG w _ _))
 ·rcases e with rfl|rfl|rfl|rfl|rfl|rfl
  ·exact⟨_,af⟩
  ·exact⟨_,up i5⟩
  ·exact⟨_,up r5⟩
  ·exact⟨_,up z5⟩
  ·exact⟨_,up p5⟩
  ·exact⟨_,up v5⟩
 ·rcases e with rfl|rfl|rfl|rfl|rfl|rfl
  ·exact hw
  ·exact f0 _ Np
  ·exact f0 _ (aR s1 hrw)
  ·exact f0 _ (aR s1 (aR s2 hz))
  ·exact f0 _ (aR s1 (aR s2 (aR s3 Uq)))
  ·exact f0 _ (aR s1 (aR s2 (aR s3 (aR s4 Yl))))
class inductive Ym
 | mk (W:Addr->Prop) (w r:Addr) (aK:gD) (pe:gS) (rows rows':cJ) (_:vs=[↥w,↥r]) (_:Wo W H w aK pe rows) (_:↑pe<=1000) (_:(∀ ik ps,(∃ rw vl,H w=⇑(.dK (qR ik rw ps vl)))->Nn W ik ps H r rows')) (_: ∀ (H':Hp),Wo W H' w aK (pe++[rows']) rows'->(∀ a ob,H a=⇑ob->¬ W a->H' a=⇑ob)->(∀ a xs,H a=⇑(.tup xs)->H' a=⇑(.tup xs))->(∀ ik rw ps vl,H w=⇑(.dK (qR ik rw ps vl))->∀ a xs,H a=⇑(.lst xs)->a≠ps->H' a=⇑(.lst xs))->Q .fT H')
theorem GZ:aF ["_law_world_here","_law_rows"] ["_law_world_here","_law_rows"] (az uO):=eO
theorem yK:‹(1,86,["_law_world_here","_law_rows"],Ym)›:=λD=>by
 specialize eS D.Xy.F GZ;let⟨W,w,r,aK,pe,rows,rows',rfl,⟨ik,rw,ps,vl,h⟩,lp,hr',k⟩:=h;have hu:=gT hr;exists _,(aj (lR hu (pv 0) bI (pv 1) rfl) (au (aT (dQ qF jV jW bS (kq hu (pv 0) bI) (aa (pv 1) ah)))));have Ju:=hr' ik ps ⟨rw,vl,h.hw⟩;refine⟨Y,Y,w,Y,vM.k (k:=kR) h.hw (by show 4<sizeLine;decide),?_⟩;rw[show dc (qR ik rw ps vl) kR ↥r=qR ik r ps vl by kernel_rfl];let⟨Vz,hp,al⟩:=h.hp;have k1:=aG w H (.dK (qR ik r ps vl));have w1:(aN H w (.dK (qR ik r ps vl))) w=⇑(.dK (qR ik r ps vl)):=af;have nw:∀ {a:Addr} {o:HO},H a=⇑o->(∀ kvs,o≠.dK kvs)->a≠w:=λ{a o} e n q=>by rw[q,h.hw]at e;cases e;exact n _ rfl
 generalize aN H w (.dK (qR ik r ps vl))=H1 at k1 w1;have YX:=k1 _ _ hp (nw hp (λ_ z=>by cases z));have z:=jj.k (k:=kP) w1;rw[show cL (qR ik r ps vl) kP=⇑↥ps by kernel_rfl]at z;have lpv:Vz.length=↑pe:=al;refine⟨Y,w,Y,z,.inl ⟨rfl,_,bG.of YX⟩,Y,ps,Z,YX,aQ ∅,?_⟩;have nps:w≠ps:=(nw hp (λ_ z=>by cases z)).symm
 have ls:∀ a xs,H a=⇑(.lst xs)->a≠ps->(aN H1 ps (.lst (Vz++[↥r]))) a=⇑(.lst xs):=λa xs e n=>by
  rw[aL n];exact k1 _ _ e (nw e (λ_ z=>by cases z))
 have tp:∀ a xs,H a=⇑(.tup xs)->(aN H1 ps (.lst (Vz++[↥r]))) a=⇑(.tup xs):=λa xs e=>by
  rw[aL (cK e hp)];exact k1 _ _ e (nw e (λ_ z=>by cases z))
 have rwf:∀ {a:Addr} {rs:cJ},Nn W ik ps H a rs->Nn W ik ps (aN H1 ps (.lst (Vz++[↥r]))) a rs:=λ{a rs} q=>q.fr (λ_ y=>y) λa xs e _ _ n=>ls a xs e n;have Jv:=rwf Ju
 refine k _ ⟨ik,r,ps,vl,h.ww,h.wi,h.wp,h.wv,λa wa=>?_,?_,h.hi.two (λxs e=>ls _ _ e h.ne) tp,Jv,⟨_,af,by rw[cT,cT,al];rfl⟩,h.ne⟩ (λa ob e n=>?_) tp λRu rw2 xO vl' ee a xs e n=>ls a xs e (by
  rw[h.hw]at ee;simp only[Option.some.injEq,HO.dK.injEq,qR,List.cons.injEq,Prod.mk.injEq,V.ref.injEq,true_and,and_true]at ee;rw[ee.2.2.1]
  exact n)
 ·by_cases e1:a=ps
  ·rw[e1];exact⟨_,af⟩
  rw[aL e1];by_cases e2:a=w
  ·rw[e2];exact⟨_,w1⟩
  ·let⟨ob,e⟩:=h.al a wa;exact⟨ob,k1 _ _ e e2⟩
 ·rw[aL nps];exact w1
 ·rw[aL (λq=>n (by rw[q];exact h.wp))];exact k1 _ _ e (λq=>n (by rw[q];exact h.ww))
def m7.al{U:Addr->Prop}{H:Hp}{x:Addr}{pe:gS}{aB:gW}{aK:gD}{nW:Nat}{bV:Vl}(h:m7 C CS CW CB U H x pe aB aK nW bV){a:Addr}(z:U a):∃ ob,H a=⇑ob:=by
 let⟨S,SW,d,wl,sh,bl,kn,du,bk,dS,st,op,dw,sg,ow,pw,db,tb,ops,L,W,B,R,T9,dj,db',dt,u⟩:=h;let⟨as,hR,_⟩:=R;rcases (u a).mp z with y|y|y|y|y|y
 ·exact L.W.al a y
 ·exact W.al a y
 ·rw[y];exact⟨_,L.hb⟩
 ·rw[y];exact⟨_,L.hx⟩
 ·rw[y];exact⟨_,B⟩
 ·rw[y];exact⟨_,hR⟩
def Wo.al{W:Addr->Prop}{H:Hp}{w:Addr}{aK:gD}{pe:gS}{rows:cJ}(h:Wo W H w aK pe rows){a:Addr}(z:W a):∃ ob,H a=⇑ob:=by
 let⟨ik,rw,ps,vl,y⟩:=h;exact y.al a z
structure ze(C CS CW CB:Addr)(H:Hp)(l c w x:Addr)(U W:Addr->Prop)(pe:gS)(rows:cJ)(pq:gS)(rq:cJ)(aB:gW)(aK:gD)(nW:Nat)(bV:Vl):Prop where
 src:eU H l c
 EA:m7 C CS CW CB U H x pe aB aK nW bV
 lst:pe.getLast?=⇑rows
 wo:Wo W H w aK pq rq
 du:∀ a,U a->¬ W a/\a≠l/\a≠c
 dw:∀ a,W a->a≠l/\a≠c
def FrS(l:Addr)(U W U' W':Addr->Prop)(H H':Hp):Prop:=(∀ a,U' a\/W' a->U a\/W a\/H a=none)/\(∀ a ob,H a=⇑ob->a≠l->¬ U a->¬ W a->H' a=⇑ob)/\∀ a xs,H a=⇑(.tup xs)->H' a=⇑(.tup xs)
def ze.mv{H H':Hp}{c w x:Addr}{U W:Addr->Prop}{pe:gS}{rows:cJ}{pq:gS}{rq:cJ}{aB:gW}{aK:gD}{nW:Nat}{bV:Vl}(h:ze C CS CW CB H l c w x U W pe rows pq rq aB aK nW bV)(k:cz l H H')(s:eU H' l c):ze C CS CW CB H' l c w x U W pe rows pq rq aB aK nW bV:=by
 let⟨ls,hl⟩:=h.src.lst;have t:∀ a xs,H a=⇑(.tup xs)->H' a=⇑(.tup xs):=λa xs e=>k _ _ e (cK e hl);exact⟨s,h.EA.fr (λa ob e z=>k _ _ e (h.du a z).2.1) t,h.lst,h.wo.fr (λa ob e z=>k _ _ e (h.dw a z).1) t,h.du,h.dw⟩
theorem ze.same{H H':Hp}{c w x:Addr}{U W:Addr->Prop}{pe:gS}{rows:cJ}{pq:gS}{rq:cJ}{aB:gW}{aK:gD}{nW:Nat}{bV:Vl}(h:ze C CS CW CB H l c w x U W pe rows pq rq aB aK nW bV)(s:aI H H'):ze C CS CW CB H' l c w x U W pe rows pq rq aB aK nW bV:=h.mv (λa o e _=>s a o e) (h.src.same s)
def Qw{α:Type}{xs:List α}{v:Int}(v0:0<=v)(v1:v<↑xs):∃ x∈xs,qJ xs v=⇑x:=by
 obtain⟨j,rfl⟩:∃ j:Nat,v=j:=⟨v.toNat,by lia⟩;have hj:j<↑xs:=by lia
 exact⟨xs[j],List.getElem_mem hj,dm (tK hj)⟩
def ze.VB{W W':Addr->Prop}{H:Hp}{w rw:Addr}{aK:gD}{pe:gS}{rows:cJ}(h:Lv W H w ik rw ps vl aK pe rows)(s:∀ a,W a->W' a)(al:∀ a,W' a->∃ ob,H a=⇑ob):Lv W' H w ik rw ps vl aK pe rows:=by
 let⟨ww,wi,wp,wv,_,hw,hi,hr,⟨vs,hp,a2⟩,ne⟩:=h;exact⟨s _ ww,s _ wi,s _ wp,s _ wv,al,hw,hi,hr.fr s (λa xs e _ _ _=>e),⟨vs,hp,a2⟩,ne⟩
def eU.fru{U U':Addr->Prop}{H H':Hp}{c:Addr}(S:eU H l c)(fr:AV U U' H H')(nl:¬ U l)(nc:¬ U c):eU H' l c:=by
 let⟨n,ns,i,d,r,e1,e2,h3⟩:=S;exact⟨n,ns,i,d,r,fr.2.1 _ _ e1 nl,fr.2.1 _ _ e2 nc,h3⟩
def ze.af9{H H':Hp}{c w x:Addr}{U U' W:Addr->Prop}{pe Rp:gS}{rows rows':cJ}{pq:gS}{rq:cJ}{aB dh:gW}{aK:gD}{nW Lx:Nat}{bV VF:Vl}(St:ze C CS CW CB H l c w x U W pe rows pq rq aB aK nW bV)(L':m7 C CS CW CB U' H' x Rp dh aK Lx VF)(hl:Rp.getLast?=⇑rows')(fr:AV U U' H H'):ze C CS CW CB H' l c w x U' W Rp rows' pq rq dh aK Lx VF/\FrS l U W U' W H H':=by
 refine⟨⟨St.src.fru fr (λz=>(St.du l z).2.1 rfl) (λz=>(St.du c z).2.2 rfl),L',hl,St.wo.fr (λa ob e z=>fr.2.1 _ _ e (λy=>(St.du a y).1 z)) fr.2.2,λa z=>?_,St.dw⟩,λa z=>z.elim (λz=>(fr.1 a z).elim .inl λy=>.inr (.inr y)) (λz=>.inr (.inl z)),λa ob e _ u _=>fr.2.1 a ob e u,fr.2.2⟩;rcases fr.1 a z with y|y
 ·exact St.du a y
 ·have n:=St.src.ne y;refine⟨λz=>?_,n.1.symm,n.2.symm⟩;let⟨ob,e⟩:=St.wo.al z;rw[y]at e;cases e
def ze.kept{H H':Hp}{c w x:Addr}{U W W':Addr->Prop}{pe:gS}{rows:cJ}{pq pq':gS}{rq rq':cJ}{aB:gW}{aK:gD}{nW:Nat}{bV:Vl}(St:ze C CS CW CB H l c w x U W pe rows pq rq aB aK nW bV)(wo:Wo W' H' w aK pq' rq')(dU:∀ a,U a->¬ W' a)(dW:∀ a,W' a->a≠l/\a≠c)(fr:∀ a ob,H a=⇑ob->¬ W' a->H' a=⇑ob)(tp:∀ a xs,H a=⇑(.tup xs)->H' a=⇑(.tup xs)):ze C CS CW CB H' l c w x U W' pe rows pq' rq' aB aK nW bV:=by
 refine⟨?_,St.EA.fr (λa ob e z=>fr _ _ e (dU a z)) tp,St.lst,wo,λa z=>⟨dU a z,(St.du a z).2⟩,dW⟩;let⟨n,ns,i,d,r,e1,e2,h3⟩:=St.src;exact⟨n,ns,i,d,r,fr _ _ e1 (λz=>(dW l z).1 rfl),fr _ _ e2 (λz=>(dW c z).2 rfl),h3⟩
def ze.new{H:Hp}{c w x a:Addr}{U W:Addr->Prop}{pe:gS}{rows:cJ}{pq:gS}{rq:cJ}{aB:gW}{aK:gD}{nW:Nat}{bV:Vl}(St:ze C CS CW CB H l c w x U W pe rows pq rq aB aK nW bV)(h:H a=none):¬ U a/\¬ W a/\a≠l/\a≠c:=by
 have n:=St.src.ne h;refine⟨λz=>?_,λz=>?_,n.1.symm,n.2.symm⟩
 ·let⟨ob,e⟩:=St.EA.al z;rw[h]at e;cases e
 ·let⟨ob,e⟩:=St.wo.al z;rw[h]at e;cases e
def own(rows:cJ)(x:Int):List Int:=(rows[x.toNat]?).getD []
def G0{rows:cJ}{s:Nat}(es:List Int)(h:s<↑rows):iM rows s es=rows.set s es:=by
 unfold iM;rw[List.set_eq_take_append_cons_drop,if_pos h,m8];rfl
theorem G1{k:Nat}:∀ {row:Row},(∀ p∈row,p.2<=p.1+(k:Nat))->↑(bK row)<=k*↑row
 | [],_=>Nat.zero_le _
 | p::r,h=>by
  have ih:=G1 (row:=r) λq hq=>h q (nI _ hq);have hp:=h p (wO ..);have e:bK (p::r)=jG p++bK r:=by unfold bK;rw[iT]
  rw[e,cT,jS,Nat.mul_add,Nat.mul_one];have:↑(jG p)<=k:=by unfold jG;rw[fD];lia
  lia
def Qx{n:Nat}{row:Row}(h:∀ p∈row,0<=p.1/\p.1<p.2/\p.2<=(n:Nat)){e:Int}(he:e∈bK row):0<=e/\e<(n:Nat):=by
 unfold bK at he;let⟨p,hp,hm⟩:=List.mem_flatMap.mp he;have b:=h p hp;have m:=Lf.mp hm;lia
class inductive Qy
 | mk (r e:Addr) (s:Nat) (xs:List V) (_:vs=[↥r,.int (s:Nat),↥e]) (_:H r=⇑(.lst xs)) (_:s<↑xs) (_:↑xs<=1000) (_:∀ (q:Addr) (H':Hp),H' q=⇑(.lst (xs.set s ↥e))->aI H H'->H q=none->Q ↥q H')
theorem yL:aF ["_law_rows","_law_sheet","_law_entries","_law_found"] ["_law_rows","_law_sheet","_law_entries"] (az uP):=eO
def Ur{n:Nat}{i:Nat}(h1:i<n):KO n ((i:Nat):Int)=⇑i:=by
 unfold KO;rw[if_pos ∅,Int.toNat_natCast,if_pos ∅]
theorem yM:‹(1,87,["_law_rows","_law_sheet","_law_entries"],Qy)›:=λD=>by
 refine eS D.Xz.F yL λcU A zn s0 H vs Q E hr h=>?_;let⟨r,e,s,xs,rfl,hr1,hs,lx,k⟩:=h;exists _,(aj (aZ (i:=3) yL.nd (d9 eX rfl D.T.iR tL (aa (pv 0) ah))) (aj (mj (pv 2) (pF (pv 3) (pv 1) jB)) (au (aJ (pv 3)))));refine⟨Y,r,Y,.inl (bG.of hr1),λq hq=>?_⟩;refine⟨Y,Y,Y,q,E,s,K,af,Ur hs,Y,k q _ af (bH hq (ak hq _) (aG q _ _)) hq⟩
def Wo.swap{W:Addr->Prop}{H:Hp}{w rw q e:Addr}{aK:gD}{pq:gS}{rq:cJ}{xs:List V}{s:Nat}{es:List Int}(wu:Lv W H w ik rw ps vl aK pq rq)(hx:H rw=⇑(.lst xs))(hq:H q=⇑(.lst (xs.set s ↥e)))(he:H e=⇑(.lst (es.map V.int)))(nq:¬ W q)(ne:¬ W e):Lv (λa=>W a\/a=e\/a=q) H w ik rw ps vl aK pq rq/\Nn (λa=>W a\/a=e\/a=q) ik ps H q (rq.set s es):=by
 have Yn:Lv (λa=>W a\/a=e\/a=q) H w ik rw ps vl aK pq rq:=ze.VB wu (λa z=>.inl z) (by
  rintro a (z|z|z)
  ·exact wu.al a z
  ·rw[z];exact⟨_,he⟩
  ·rw[z];exact⟨_,hq⟩)
 let⟨_,_,_,vs,hvs,al⟩:=id Yn.hr;rw[hx]at hvs;cases hvs;have ne':∀ {a b:Addr},W a->¬ W b->b≠a:=λwa nb z=>nb (by rw[z];exact wa);exists Yn,.inr (.inr rfl),ne' wu.wi nq,ne' wu.wp nq,_,hq
 have key:∀ {vs:List V} {rs:cJ} (s:Nat),cj (Vy (λa=>W a\/a=e\/a=q) ik ps H) vs rs->cj (Vy (λa=>W a\/a=e\/a=q) ik ps H) (vs.set s ↥e) (rs.set s es):=by
  intro vs rs s z
  induction z generalizing s with
  | nil=>exact .nil
  | cons o t ih =>
   cases s with
   | zero=>exact .cons ⟨e,rfl,.inr (.inl rfl),ne' wu.wi ne,ne' wu.wp ne,he⟩ t
   | succ n=>exact .cons o (ih n)
 exact key s al
theorem lV:aF ["_law_row","_law_numbers","_law_start","_law_stop"] ["_law_row"] (az rA):=eO
theorem EB:‹(1,88,["_law_row"],(Si 1000000))›:=λD=>by
 specialize eS D.abq.F lV;let⟨r,row,rfl,⟨as,hr1,hp⟩,E7,dJ,hrl,k⟩:=h;exists _,(aj (aZ (i:=1) lV.nd (bL ah)) (aj (dX PassesOwn.never rfl (cu (pv 0)) (kQ (n:=2) rfl (bP (bQ (i:=2) lV.nd) (bP (bQ (i:=3) lV.nd) fX))) (au (aT (dQ qF PySem.F.slot_list_extend PySem.F.type_list_extend jY (pv 1) (aa (d9 (t6 rfl) rfl D.T.iR tL (aa (d9 FD rfl D.T.jb PyProof.Rows.boot_range (aa (pv 2) (aa (pv 3) ah))) ah)) ah))))) (au (aJ (pv 1)))));refine⟨gQ,λq hq=>?_⟩;have s0:aI H (aN H q (.lst [])):=ak hq _;refine⟨Y,r,rfl,⟨_,bG.of (s0 _ _ hr1)⟩,dB (K:=K) (a:=r) (xs:=as.map V.ref) (λi σ H2=>∃ (u v:Option V),σ=[⇑↥r,⇑↥q,u,v]/\H2 q=⇑(.lst ((bK (row.take i)).map V.int))/\aI H H2) ⟨none,none,rfl,af,s0⟩ (by rintro i σ H2 _ ⟨_,_,_,_,s⟩;exact bG.of (s _ _ hr1)) ?_ ?_⟩
 ·rintro i x σ H2 hi ⟨u,v,rfl,eN,s⟩;rw[mY]at hi;let⟨a,ea,rfl⟩:=Option.map_eq_some_iff.mp hi;let⟨⟨st,en⟩,ep,ha⟩:=hp.get ea;let⟨b1,b2,b3⟩:=E7 _ (nJ ep);simp only at b1 b2 b3;have step:=Ah ep
  have lz:↑(bK (row.take i))+(en-st).toNat<=1000000:=by
   have z:=uc row (i+1);rw[step,cT,jG,fD]at z;exact gX z dJ
  exists a,Y,cW.of (s _ _ ha),rfl,E,rfl,Z;refine⟨Y,.inl ⟨rfl,_,bG.of eN⟩,Y,Y,E,rfl,λp hp=>⟨p,E,rfl,af,⟨by lia,by lia,by lia,by lia⟩,gG (aQ ∅),λm hm=>?_⟩⟩;have s1:aI H2 (aN H2 p (.Fd st en)):=ak hp _;have s2:=s1.trans (ak hm (.lst (CH st (en-st).toNat)));exists q,m,Z,s2 _ _ eN,af,?_
  ·rw[cB,Ag,cB,fD];exact gG (aQ ∅)
  ·refine⟨E,rfl,?_,bH hq (s.trans s2) (aG q _ _)⟩;rw[af,step,gE,Ag];rfl
 ·rintro σ H2 ⟨u,v,rfl,eN,s⟩;refine⟨Y,k q H2 ?_ s hq⟩;rw[cB,hp.len,gH]at eN;exact eN
class inductive EC(d:Nat)
 | mk (av:Addr->Prop) (r:Addr) (rows:cJ) (x:Int) (sh:Int->List Int) (rk:Int->Nat) (_:vs=[↥r,.int x]) (_:iu av H r rows) (_:↑rows<=1000) (_:gf rows) (_:0<=x) (_:x<↑rows) (_:kF rows sh) (_:(∀ x:Int,0<=x->x<↑rows->↑(sh x)<=10000)) (_:(∀ x y,gO rows x y->rk y<rk x)) (_:rk x<d) (_ :
 ∀ (o:Addr) (H':Hp),H' o=⇑(.lst ((sh x).map V.int))->aI H H'->H o=none->Q ↥o H')
theorem rX:aF ["_law_rows","_law_sheet","_law_numbers","_law_entry"] ["_law_rows","_law_sheet"] (az uQ):=eO
def BU(D:Ds K mg aY bf C CS CW CB CT CD){n:Nat}(JT:bq P w K mg zt cO (n+1) (aY 89) (bf 89) ["_law_rows","_law_sheet"] (EC n)):bq P w K mg zt cO (n+2) (aY 89) (bf 89) ["_law_rows","_law_sheet"] (EC (n+1)):=by
 specialize eS D.Js.F rX;let⟨av,r,rows,x,sh,rk,rfl,R,dJ,pC,x0,x1,yz,E7,yV,hd,k⟩:=h;obtain⟨es,eV⟩:∃ es,rows[x.toNat]?=⇑es:=⟨_,tK ∅⟩;let⟨qL,b,vt,D6,hb0,hrl⟩:=R.get eV
 have vX:qJ qL x=⇑↥b:=by
  have z:=dm D6;rw[show ((x.toNat:Nat):Int)=x by lia]at z;exact z
 have shx:=yz x es x0 eV
 have part:∀ i,↑(aU sh (es.take i))<=10000:=λi=>by
  have z:=E7 x x0 x1
  have e:aU sh es=aU sh (es.take i)++aU sh (es.drop i):=by
   unfold aU;rw[← yQ,List.take_append_drop]
  rw[shx,e,cT]at z;lia
 exists _,(aj (aZ (i:=2) rX.nd (bL ah)) (aj (dX PassesOwn.never rfl (cu (aO bu (pv 0) (pv 1))) (bQ (i:=3) rX.nd) (au (bO (aV jT (pv 3) ay (bh _)) (au (aT (dQ qF PySem.F.slot_list_extend PySem.F.type_list_extend jY (pv 2) (aa (aH D.Js JT hr (aa (pv 0) (aa (bz cY (gv d7 ay) (pv 3)) ah))) ah)))) (au (aT (dQ qF jV jW bS (pv 2) (aa (pv 3) ah))))))) (au (aJ (pv 2)))));refine⟨gQ,λq hq=>?_⟩;have s0:aI H (aN H q (.lst [])):=ak hq _;refine⟨Y,Y,r,Q,K,bG.of (s0 _ _ vt),vX,b,rfl,⟨_,bG.of (s0 _ _ hb0)⟩,dB (K:=K) (a:=b) (xs:=es.map V.int) (λi σ H2=>∃ u:Option V,σ=[⇑↥r,⇑(.int x),⇑↥q,u]/\H2 q=⇑(.lst ((aU sh (es.take i)).map V.int))/\aI H H2) ⟨none,rfl,af,s0⟩ (by rintro i σ H2 _ ⟨_,_,_,s2⟩;exact bG.of (s2 _ _ hb0)) ?_ ?_⟩
 ·rintro i e σ H2 hi ⟨u,rfl,h2,s2⟩;rw[mY]at hi;let⟨e,ex,rfl⟩:=Option.map_eq_some_iff.mp hi
  have st:aU sh (es.take (i+1))=aU sh (es.take i)++aX sh e:=by
   rw[take_snoc ex];unfold aU;rw[yQ];simp
  have pl:=part (i+1);rw[st,cT]at pl;refine⟨Y,Z,Y,cR (λc=>?_) (λc=>?_)⟩
  ·have c':e<0:=of_decide_eq_true c;have ee:aX sh e=sh (-1-e):=by unfold aX;rw[if_pos c']
   rw[ee]at st pl;have HY:gO rows x (-1-e):=⟨x0,es,eV,cD.mpr ⟨by lia,by rw[show -1-(-1-e)=e by lia];exact nJ ex⟩⟩;let⟨y0,y1⟩:=pC.Bp HY;have rky:=yV _ _ HY;refine⟨Y,.inl ⟨rfl,_,bG.of h2⟩,Y,Y,Y,Z,av,r,rows,-1-e,sh,rk,rfl,R.same s2,dJ,pC,y0,y1,yz,E7,yV,by lia,λo H3 h3 s3 ho=>?_⟩;refine⟨q,o,Z,s3 _ _ h2,h3,gG (aQ (by rw[cB,cB];lia)),?_⟩;refine⟨Y,?_,bH hq (s2.trans s3) (aG q _ _)⟩;rw[af,st,gE]
  ·have c':¬ e<0:=λz=>c (decide_eq_true z);have ee:aX sh e=[e]:=by unfold aX;rw[if_neg c']
   rw[ee]at st pl;refine⟨Y,.inl ⟨rfl,_,bG.of h2⟩,Y,q,Z,h2,(by rw[cB];exact aQ ∅),?_⟩;refine⟨Y,?_,bH hq s2 (aG q _ _)⟩;rw[af,st,gE];rfl
 ·rintro σ H2 ⟨u,rfl,h2,s2⟩;rw[cB,gH,← shx]at h2;exact⟨Y,k q H2 h2 s2 hq⟩
theorem ju(D:Ds K mg aY bf C CS CW CB CT CD):∀ n:Nat,bq P w K mg zt cO (n+1) (aY 89) (bf 89) ["_law_rows","_law_sheet"] (EC n)
 | 0=>by
  have no:∀ vs H Q E,¬ EC 0 vs H Q E:=λvs H Q E h=>by
   let⟨_,_,_,_,_,_,_,_,_,_,_,_,_,_,_,h,_⟩:=h;exact Nat.not_lt_zero _ h
  exact⟨λvs H Q E h=>absurd h (no vs H Q E),λA zn s H args us vs Q E _ _ _ _ h=>absurd h (no vs H Q E)⟩
 | n+1=>BU D (ju D n)
def NW(rows:cJ):Nat->Int->List Int
 | 0,_=>[]
 | k+1,x=>match rows[x.toNat]? with
  | some es=>aU (NW rows k) es
  | none=>[]
def nG{f g:Int->List Int}{es:List Int}(h:∀ y∈dM es,f y=g y):aU f es=aU g es:=by
 unfold aU;rw[List.flatMap_def,List.flatMap_def];congr 1;refine List.map_congr_left λe he=>?_;unfold aX;by_cases c:e<0
 ·rw[if_pos c,if_pos c,h (-1-e) (cD.mpr ⟨by lia,by rw[show -1-(-1-e)=e by lia];exact he⟩)]
 ·rw[if_neg c,if_neg c]
def A6{rows:cJ}(h:Bq rows):∃ sh,kF rows sh:=by
 let⟨rk,hb,hd⟩:=h
 have key:∀ (k:Nat) (x:Int),0<=x->rk x<k->NW rows k x=NW rows (k+1) x:=by
  intro k
  induction k with
  | zero=>intro x _ h;lia
  | succ k ih =>
   intro x x0 hx
   cases e:rows[x.toNat]? with
   | none=>simp[NW,e]
   | some es =>
    have e1:NW rows (k+1) x=aU (NW rows k) es:=by simp[NW,e]
    have e2:NW rows (k+1+1) x=aU (NW rows (k+1)) es:=by
     show (match rows[x.toNat]? with|some es=>aU (NW rows (k+1)) es|none=>[])=_;rw[e]
    rw[e1,e2];refine nG λy hy=>ih y (cD.mp hy).1 ?_;have:=hd x y ⟨x0,es,e,hy⟩;lia
 refine⟨NW rows 41,λx es x0 he=>?_⟩;rw[key 41 x x0 (by have:=hb x;lia)];show (match rows[x.toNat]? with|some es=>aU (NW rows 41) es|none=>[])=_;rw[he]
def A7(n:Nat)(L:List Int):Nat:=cnt n λi=>decide ((i:Int)∉L)
def Nq{n:Nat}{L:List Int}{y:Int}(h0:0<=y)(h1:y<n)(hn:y∉L):A7 n (L++[y])+1=A7 n L:=by
 refine vP y.toNat n ∅ ?_ λi=>?_
 ·show decide (((y.toNat:Nat):Int)∉L)=true;rw[show ((y.toNat:Nat):Int)=y by lia];exact decide_eq_true hn
 ·show decide ((i:Int)∉L++[y])=(decide ((i:Int)∉L)&&decide (i≠y.toNat));rw[← Bool.decide_and];congr 1;rw[List.mem_append,List.mem_singleton];apply propext;constructor
  ·intro h;exact⟨λq=>h (.inl q),λq=>h (.inr ∅)⟩
  ·rintro⟨a,b⟩ (q|q)
   ·exact a q
   ·exact b ∅
def ED(a b:List Int):dM (a++b)=dM a++dM b:=by unfold dM;rw[List.filterMap_append]
structure Dfs(rows:cJ)(H:Hp)(Rr Wt:Addr)(s:Int)(Pp:Int->Prop)(H2:Hp)(L ws:List Int):Prop where
 hR:H2 Rr=⇑(.lst (L.map V.int))
 hW:H2 Wt=⇑(.lst (ws.map V.int))
 sm:aI H H2
 rc:∀ x∈L,Reach (gO rows) s x
 wr:∀ x∈ws,(x=s\/x∈L)/\0<=x/\x<↑rows
 kl:↑L+A7 ↑rows L<=↑rows
 cl:∀ x,(x=s\/x∈L)->x∈ws\/Pp x\/∀ y,gO rows x y->y∈L
class inductive Dn
 | mk (av:Addr->Prop) (r:Addr) (rows:cJ) (s:Int) (_:vs=[↥r,.int s]) (_:iu av H r rows) (_:↑rows<=1000) (_:(∀ es∈rows,↑es<=100000)) (_:gf rows) (_:0<=s) (_:s<↑rows) (_ :
 ∀ (L:List Int) (o:Addr) (H':Hp),H' o=⇑(.lst (L.map V.int))->aI H H'->(∀ x,x∈L↔Reach (gO rows) s x)->Q ↥o H')
theorem iC:aF ["_law_rows","_law_sheet","_law_reached_here","_law_waiting","_law_here","_law_entry"] ["_law_rows","_law_sheet"] (az nX):=eO
def muR(n:Nat)(L ws:List Int):Nat:=2*A7 n L+↑ws
def VG(rows:cJ)(H:Hp)(r Rr Wt:Addr)(s:Int)(m:Nat)(σ:L2.St)(H2:Hp):Prop:=∃ (L ws:List Int) (u v:Option V),σ=[⇑↥r,⇑(.int s),⇑↥Rr,⇑↥Wt,u,v]/\Dfs rows H Rr Wt s (λ_=>False) H2 L ws/\↑ws+2*A7 ↑rows L<=2*↑rows+1/\m=muR ↑rows L ws
theorem rY:‹(1,90,["_law_rows","_law_sheet"],Dn)›:=λD=>by
 refine eS D.XA.F iC λcU A zn s0 H vs Q E hr h=>?_;let⟨av,r,rows,s,rfl,hRw,dJ,hes,pC,h0,h1,k⟩:=h;have hu:=gT hr;exists _,(aj (aZ (i:=2) iC.nd (bL ah)) (aj (aZ (i:=3) iC.nd (bL (aa (pv 1) ah))) (aj (qV PassesOwn.never (aV Fq (gp D.T.gg (pv 3)) ay (bh _)) (aj (aZ (i:=4) iC.nd (IM qF PySem.F.slot_list_pop PySem.F.type_list_pop Ov (pv 3))) (au (dX PassesOwn.never rfl (cu (aO bu (pv 0) (pv 4))) (bQ (i:=5) iC.nd) (au (bO (PW.pt (kO (aV jT (pv 5) ay (bh _)) (j6 (aV vF (bz cY (gv d7 ay) (pv 5)) (pv 2) rfl)))) (aj (aT (dQ qF jV jW bS (pv 2) (aa (bz cY (gv d7 ay) (pv 5)) ah))) (au (aT (dQ qF jV jW bS (pv 3) (aa (bz cY (gv d7 ay) (pv 5)) ah))))) br)))))) (au (aJ (pv 2))))));refine⟨gQ,λRr hRr=>?_⟩;refine⟨Y,ku,λWt hWt=>?_⟩;have s1:aI H (aN H Rr (.lst [])):=ak hRr _;have s2:=s1.trans (ak hWt (.lst [.int s]))
 have Tj:H Wt=none:=by
  cases e:H Wt with
  | none=>rfl
  | some o=>exact absurd ((s1 _ _ e).symm.trans hWt) (by simp)
 have nRW:Rr≠Wt:=aA af hWt;exists VG rows H r Rr Wt s,⟨_,[],[s],none,none,rfl,⟨ak hWt _ _ _ af,af,s2,?_,?_,?_,?_⟩,?_,rfl⟩
 ·intro x hx;cases hx
 ·intro x hx;have:x=s:=by simpa using hx
  exact⟨.inl this,by lia,by lia⟩
 ·have:=As ↑rows (λi=>decide ((i:Int)∉([]:List Int)));show 0+cnt ↑rows _<=_;lia
 ·rintro x (rfl|hx)
  ·exact .inl (by simp)
  ·cases hx
 ·have:=As ↑rows (λi=>decide ((i:Int)∉([]:List Int)));show 1+2*cnt ↑rows _<=_;lia
 rintro m σ H2 ⟨L,ws,u,v,rfl,B,hml,rfl⟩;exists Y,Wt,Y,.inl (bG.of B.hW),Z,Y;rcases qG ws with rfl|⟨Y0,h,rfl⟩
 ·refine eL ⟨Y,k L Rr H2 B.hR B.sm λx=>⟨λhx=>B.rc x hx,λhx=>?_⟩⟩
  have zt:∀ x,(x=s\/x∈L)->∀ y,gO rows x y->y∈L:=λx hx=>by
   rcases B.cl x hx with z|z|z
   ·cases z
   ·exact z.elim
   ·exact z
  exact Reach.closed (S:=λy=>y∈L) (zt s (.inl rfl)) (λx y hx=>zt x (.inr hx) y) hx
 rw[nK]at B hml ⊢;refine cR (λ_=>?_) (λz=>absurd (decide_eq_true (by simp)) z);let⟨hR2,hW2,sm2,rc2,wr2,kl2,cl2⟩:=id B;let⟨hh,e0,e1⟩:=wr2 h (by simp);obtain⟨es,eV⟩:∃ es,rows[h.toNat]?=⇑es:=⟨_,tK ∅⟩;have XJ:=hes es (nJ eV);refine⟨fun σ' H'=>∃ m',m'<muR ↑rows L (Y0++[h])/\VG rows H r Rr Wt s m' σ' H',fun σ' H' z=>z,?_⟩;refine⟨Y,.inl ⟨rfl,_,bG.of hW2⟩,Wt,_,.int h,K,hW2,(by simp),?_⟩;have ee:((Y0++[h]).map V.int).dropLast=Y0.map V.int:=by simp
 rw[ee];have Pu:aI H (aN H2 Wt (.lst (Y0.map V.int))):=bH Tj sm2 (aG Wt _ _);let⟨qL,b,vt,D6,hb0,hrl⟩:=hRw.get eV;have hb3:=Pu _ _ hb0;refine⟨Y,Y,r,Q,K,bG.of (Pu _ _ vt),?_,b,rfl,⟨_,bG.of hb3⟩,dB (K:=K) (a:=b) (xs:=es.map V.int) (λi σ H5=>∃ (L2 Us:List Int) (v:Option V),σ=[⇑↥r,⇑(.int s),⇑↥Rr,⇑↥Wt,⇑(.int h),v]/\ Dfs rows H Rr Wt s (λx=>x=h) H5 L2 Us/\(∀ y∈dM (es.take i),y∈L2)/\(∀ y∈L,y∈L2)/\Us.length+2*A7 ↑rows L2<=Y0.length+2*A7 ↑rows L) ?_ ?_ ?_ ?_⟩
 ·have z:=dm D6;rw[show ((h.toNat:Nat):Int)=h by lia]at z;exact z
 ·refine⟨L,Y0,Y,⟨(by rw[aL nRW];exact hR2),af,Pu,rc2,λx hx=>wr2 x (tM _ hx),kl2,λx hx=>?_⟩,(λy hy=>by simp[dM]at hy),λ_ q=>q,fK _⟩;rcases cl2 x hx with z|z|z
  ·rcases List.mem_append.mp z with q|q
   ·exact .inl q
   ·exact .inr (.inl (by simpa using q))
  ·exact z.elim
  ·exact .inr (.inr z)
 ·rintro i σ H5 _ ⟨_,_,_,_,B5,_⟩;exact bG.of (B5.sm _ _ hb0)
 ·rintro i x σ H5 hi ⟨L2,Us,v,rfl,B5,qw,hsub,YT⟩;rw[mY]at hi;let⟨x,ex,rfl⟩:=Option.map_eq_some_iff.mp hi;have step:dM (es.take (i+1))=dM (es.take i)++dM [x]:=by rw[take_snoc ex,ED]
  refine⟨Y,Z,Y,cR (λc=>?_) (λc=>eL ?_)⟩
  ·have c':x<0:=of_decide_eq_true c;have wx:dM [x]=[-1-x]:=by simp[dM,c']
   have HY:gO rows h (-1-x):=⟨e0,es,eV,by
    rw[cD]
    exact⟨by lia,by rw[show -1-(-1-x)=x by lia];exact nJ ex⟩⟩
   let⟨y0,y1⟩:=pC.Bp HY;exists Y,Y,Z,Y,Rr,Y,.inl (bG.of B5.hR),rfl,sS L2,Y;rw[zx];by_cases hm:-1-x∈L2
   ·rw[decide_eq_true hm];refine eL ?_;refine⟨L2,Us,Y,B5,(λy hy=>?_),hsub,YT⟩;rw[step,wx]at hy;rcases List.mem_append.mp hy with q|q
    ·exact qw y q
    ·have:y=-1-x:=by simpa using q
     rw[this];exact hm
   ·rw[decide_eq_false hm];refine iX ?_;have kll:=B5.kl;have mp:=Nq y0 y1 hm;refine⟨Y,.inl ⟨rfl,_,bG.of B5.hR⟩,Y,Y,Z,Rr,Z,B5.hR,(by rw[cB];exact aQ ∅),?_⟩;have Rl:(aN H5 Rr (.lst (L2.map V.int++[.int (-1-x)]))) Wt=⇑(.lst (Us.map V.int)):=by rw[aL nRW.symm];exact B5.hW
    refine⟨Y,.inl ⟨rfl,_,bG.of Rl⟩,Y,Y,Z,Wt,Z,Rl,(by rw[cB];rw[cT,gV]at hml;exact aQ ∅),?_⟩;refine⟨L2++[-1-x],Us++[-1-x],Y,⟨?_,?_,bH Tj (bH hRr B5.sm (aG Rr _ _)) (aG Wt _ _),?_,?_,?_,?_⟩,?_,λy q=>tM _ (hsub y q),?_⟩
    ·rw[aL nRW,af,gE];rfl
    ·rw[af,gE];rfl
    ·intro y hy;rcases List.mem_append.mp hy with q|q
     ·exact B5.rc y q
     ·have:y=-1-x:=by simpa using q
      subst this;rcases hh with rfl|hh
      ·exact .one HY
      ·exact .step (B.rc h hh) HY
    ·intro y hy;rcases List.mem_append.mp hy with q|q
     ·let⟨q1,q2⟩:=B5.wr y q;exact⟨q1.imp id (tM _),q2⟩
     ·have:y=-1-x:=by simpa using q
      subst this;exact⟨.inr (by simp),y0,y1⟩
    ·rw[cT,gV];lia
    ·intro y hy;by_cases e:y=-1-x
     ·exact .inl (by rw[e];simp)
     ·have Mb:y=s\/y∈L2:=hy.imp id λq=>by
       rcases List.mem_append.mp q with z|z
       ·exact z
       ·exact absurd (by simpa using z) e
      rcases B5.cl y Mb with q|q|q
      ·exact .inl (tM _ q)
      ·exact .inr (.inl q)
      ·exact .inr (.inr λz hz=>tM _ (q z hz))
    ·intro y hy;rw[step,wx]at hy;rcases List.mem_append.mp hy with q|q
     ·exact tM _ (qw y q)
     ·exact pD _ q
    ·rw[cT,gV];lia
  ·have c':¬ x<0:=λz=>c (decide_eq_true z);have wx:dM [x]=[]:=by simp[dM,c']
   exact⟨L2,Us,Y,B5,(by rw[step,wx,fV];exact qw),hsub,YT⟩
 ·rintro σ H5 ⟨L2,Us,v,rfl,B5,qw,hsub,YT⟩;rw[cB,gH]at qw;refine⟨_,?_,L2,Us,E,rfl,⟨B5.hR,B5.hW,B5.sm,B5.rc,B5.wr,B5.kl,λx hx=>?_⟩,?_,rfl⟩
  ·unfold muR;rw[cT,gV];lia
  ·rcases B5.cl x hx with q|rfl|q
   ·exact .inl q
   ·refine .inr (.inr λy hy=>qw y ?_);let⟨_,tV,CK,Mb⟩:=hy;rw[eV]at CK;cases CK;exact Mb
   ·exact .inr (.inr q)
  ·rw[cT,gV]at hml;lia
theorem qt(sh:Int->List Int)(es:List Int)(i:Nat):↑(aU sh (es.take i))<=↑(aU sh es):=iJ (aX sh) es i
class inductive yi(d:Nat)
 | mk (av:Addr->Prop) (r:Addr) (rows:cJ) (e:Int) (sh:Int->List Int) (rk:Int->Nat) (_:vs=[↥r,.int e]) (_:iu av H r rows) (_:↑rows<=1000) (_:gf rows) (_:kF rows sh) (_:(∀ x:Int,0<=x->x<↑rows->↑(sh x)<=10000)) (_:(∀ x y,gO rows x y->rk y<rk x)) (_:(e<0->-1-e<↑rows/\rk (-1-e)<d)) (_ :
 ∀ (o:Addr) (H':Hp),H' o=⇑(.lst ((aX sh e).map V.int))->aI H H'->H o=none->Q ↥o H')
theorem BV:aF ["_law_rows","_law_entry"] ["_law_rows","_law_entry"] (az pX):=eO
def ur(D:Ds K mg aY bf C CS CW CB CT CD){d:Nat}:bq P w K mg zt cO (d+2) (aY 91) (bf 91) ["_law_rows","_law_entry"] (yi d):=by
 specialize eS D.XC.F BV;let⟨av,r,rows,e,sh,rk,rfl,R,dJ,pC,yz,E7,yV,hd,k⟩:=h;exists _,(aj (bO (aV jT (pv 1) ay (bh _)) (au (aJ (aH D.Js (ju D d) hr (aa (pv 0) (aa (bz cY (gv d7 ay) (pv 1)) ah))))) br) (au (aJ (bL (aa (pv 1) ah)))));refine⟨Y,Z,Y,cR (λc=>?_) (λc=>?_)⟩
 ·have c':e<0:=of_decide_eq_true c;let⟨d1,d2⟩:=hd c';refine⟨Y,Y,Y,Z,av,r,rows,-1-e,sh,rk,rfl,R,dJ,pC,by lia,d1,yz,E7,yV,d2,λo H' h s ho=>k o H' ?_ s ho⟩;unfold aX;rw[if_pos c'];exact h
 ·have c':¬ e<0:=λz=>c (decide_eq_true z);refine⟨Y,ku,λo ho=>k o _ ?_ (ak ho _) ho⟩;unfold aX;rw[if_neg c',af];rfl
theorem EE(sh:Int->List Int)(p:Int):∀ (es:List Int) (f:Int),↑(aE sh p f es)<=↑es+↑(aU sh es)
 | [],_=>by simp[aE]
 | e::r,f=>by
  rw[aE,bX,cT,cT,jS];have a:=EE sh p r (f+↑(aX sh e))
  have b:↑(if f+↑(aX sh e)<=p then [e] else if p<=f then [] else (aX sh e).take (p-f).toNat)<=1+↑(aX sh e):=by
   split
   ·simp
   ·split
    ·simp
    ·rw[gr];lia
  lia
theorem EF(sh:Int->List Int)(p:Int):∀ (es:List Int) (f:Int),↑(bE sh p f es)<=↑es+↑(aU sh es)
 | [],_=>by simp[bE]
 | e::r,f=>by
  rw[bE,bX,cT,cT,jS];have a:=EF sh p r (f+↑(aX sh e))
  have b:↑(if f+↑(aX sh e)<=p then [] else if p<=f then [e] else (aX sh e).drop (p-f).toNat)<=1+↑(aX sh e):=by
   split
   ·simp
   ·split
    ·simp
    ·rw[qH];lia
  lia
class inductive JU(d:Nat)
 | mk (av:Addr->Prop) (r n:Addr) (rows:cJ) (s p:Int) (new:List Int) (sh:Int->List Int) (rk:Int->Nat) (_:vs=[↥r,.int s,.int p,↥n]) (_:iu av H r rows) (_:↑rows<=1000) (_:(∀ es∈rows,↑es<=25000)) (_:gf rows) (_:kF rows sh) (_:(∀ x:Int,0<=x->x<↑rows->↑(sh x)<=10000)) (_:(∀ x y,gO rows x y->rk y<rk x)) (_:0<=s) (_:s<↑rows) (_:rk s<=d) (_:H n=⇑(.lst (new.map V.int))) (_:↑new<=25000) (_ :
 ∀ (es:List Int) (o:Addr) (H':Hp),rows[s.toNat]?=⇑es->H' o=⇑(.lst ((fH sh p es new).map V.int))->↑(fH sh p es new)<=100000->aI H H'->H o=none->Q ↥o H')
theorem iD:aF ["_law_rows","_law_sheet","_law_place","_law_new","_law_ahead","_law_behind","_law_first","_law_entry","_law_pieces_here","_law_last"] ["_law_rows","_law_sheet","_law_place","_law_new"] (az xo):=eO
def JV(D:Ds K mg aY bf C CS CW CB CT CD){d:Nat}:bq P w K mg zt cO (d+3) (aY 92) (bf 92) ["_law_rows","_law_sheet","_law_place","_law_new"] (JU d):=by
 have qu:bq P w K mg zt cO (d+2) _ _ zl8 (yi d):=ur D;refine eS D.Pj.F iD λcU A zn s0 H vs Q E hr h=>?_;let⟨av,r,n,rows,s,p,new,sh,rk,rfl,R,dJ,hes,pC,yz,E7,yV,h0,h1,hd,hn,nl,k⟩:=h;obtain⟨es,eV⟩:∃ es,rows[s.toNat]?=⇑es:=⟨_,tK ∅⟩;have esl:=hes es (nJ eV);have shs:=yz s es h0 eV;have shl:=E7 s h0 h1;rw[shs]at shl;let⟨qL,b,vt,D6,hb0,hrl⟩:=R.get eV
 have vX:qJ qL s=⇑↥b:=by
  have z:=dm D6;rw[show ((s.toNat:Nat):Int)=s by lia]at z;exact z
 exists _,(aj (bO (aV dY (gp D.T.gg (pv 3)) ay (bh _)) (au (aJ (d9 eX rfl D.T.iR tL (aa (aO bu (pv 0) (pv 1)) ah)))) br) (aj (aZ (i:=4) iD.nd (bL ah)) (aj (aZ (i:=5) iD.nd (bL ah)) (aj (aZ (i:=6) iD.nd ay) (aj (dX PassesOwn.never rfl (cu (aO bu (pv 0) (pv 1))) (bQ (i:=7) iD.nd) (aj (aZ (i:=8) iD.nd (aH D.XC qu hr (aa (pv 0) (aa (pv 7) ah)))) (aj (aZ (i:=9) iD.nd (bz dH (pv 6) (gp D.T.gg (pv 8)))) (aj (bO (aV fY (pv 9) (pv 2) (bh _)) (au (aT (dQ qF jV jW bS (pv 4) (aa (pv 7) ah)))) (au (bO (aV fY (pv 2) (pv 6) (bh _)) (au (aT (dQ qF jV jW bS (pv 5) (aa (pv 7) ah)))) (aj (aT (dQ qF PySem.F.slot_list_extend PySem.F.type_list_extend jY (pv 4) (aa (gZ lP (pv 8) lO (iG (bz cY (pv 2) (pv 6)))) ah))) (au (aT (dQ qF PySem.F.slot_list_extend PySem.F.type_list_extend jY (pv 5) (aa (gZ lP (pv 8) (iG (bz cY (pv 2) (pv 6))) lO) ah)))))))) (au (aZ (i:=6) iD.nd (pv 9))))))) (au (aJ (bz jC (bz jC (pv 4) (pv 3)) (pv 5)))))))));refine⟨Y,n,Y,.inl (bG.of hn),rfl,Y,cR (λc=>?_) (λc=>?_)⟩
 ·have c':new=[]:=by
   have z:V.int (↑(new.map V.int):Int)=V.int 0:=of_decide_eq_true c;have z2:=V.int.inj z;rw[cB]at z2;exact List.eq_nil_of_length_eq_zero ∅
  refine⟨Y,Y,r,Q,K,bG.of vt,vX,b,Y,.inl (bG.of hb0),λo ho=>k es o _ eV ?_ ?_ (ak ho _) ho⟩
  ·rw[af];unfold fH;rw[if_pos c']
  ·unfold fH;rw[if_pos c'];lia
 have c':¬ new=[]:=λz=>c (by rw[z];rfl);refine⟨gQ,λA hA=>⟨gQ,λB hB=>?_⟩⟩;have sA:aI H (aN H A (.lst [])):=ak hA _;have sB:aI _ (aN (aN H A (.lst [])) B (.lst [])):=ak hB _;have s1:=sA.trans sB;have Br:A≠B:=aA af hB;have NQ:=aR sA hB;refine⟨Y,Y,r,Q,K,bG.of (s1 _ _ vt),vX,b,rfl,⟨_,bG.of (s1 _ _ hb0)⟩,dB (K:=K) (a:=b) (xs:=es.map V.int) (λi σ H2=>∃ u1 u2 u3:Option V,σ=[⇑↥r,⇑(.int s),⇑(.int p),⇑↥n,⇑↥A,⇑↥B,⇑(.int (0+(↑(aU sh (es.take i)):Int))),u1,u2,u3]/\H2 A=⇑(.lst ((aE sh p 0 (es.take i)).map V.int))/\H2 B=⇑(.lst ((bE sh p 0 (es.take i)).map V.int))/\aI H H2) ⟨none,none,none,rfl,sB _ _ af,af,s1⟩ (by rintro i σ H2 _ ⟨_,_,_,_,_,_,s2⟩;exact bG.of (s2 _ _ hb0)) ?_ ?_⟩
 ·rintro i x σ H2 hi ⟨u1,u2,u3,rfl,Qz,hB2,s2⟩;rw[mY]at hi;let⟨e,ex,rfl⟩:=Option.map_eq_some_iff.mp hi;have st:=take_snoc ex
  have eA:aE sh p 0 (es.take (i+1))=aE sh p 0 (es.take i)++(if 0+(↑(aU sh (es.take i)):Int)+↑(aX sh e)<=p then [e] else if p<=0+(↑(aU sh (es.take i)):Int) then [] else (aX sh e).take (p-(0+(↑(aU sh (es.take i)):Int))).toNat):=by
   rw[st,xR,aE,aE,fV]
  have eB:bE sh p 0 (es.take (i+1))=bE sh p 0 (es.take i)++(if 0+(↑(aU sh (es.take i)):Int)+↑(aX sh e)<=p then [] else if p<=0+(↑(aU sh (es.take i)):Int) then [e] else (aX sh e).drop (p-(0+(↑(aU sh (es.take i)):Int))).toNat):=by
   rw[st,xS,bE,bE,fV]
  have eF:(0+(↑(aU sh (es.take (i+1))):Int))=0+(↑(aU sh (es.take i)):Int)+↑(aX sh e):=by
   rw[st,jL,bX,cT,cT];simp[aU]
  have lA:=EE sh p (es.take (i+1)) 0;have lB:=EF sh p (es.take (i+1)) 0;have lA0:=EE sh p (es.take i) 0;have lB0:=EF sh p (es.take i) 0;have l1:=qt sh es (i+1);have l0:=qt sh es i;have t1:↑(es.take (i+1))<=↑es:=by rw[gr];lia
  have t0:↑(es.take i)<=↑es:=by rw[gr];lia
  refine⟨Y,Y,av,r,rows,e,sh,rk,rfl,R.same s2,dJ,pC,yz,E7,yV,λagc=>?_,λo H3 h3 s3 ho=>?_⟩
  ·have nx:gO rows s (-1-e):=⟨h0,es,eV,cD.mpr ⟨by lia,by rw[show -1-(-1-e)=e by lia];exact nJ ex⟩⟩;have:=yV _ _ nx;exact⟨(pC.Bp nx).2,by lia⟩
  have Ib:=s3 _ _ Qz;have Ut:=s3 _ _ hB2;exists Y,Y,o,Y,.inl (bG.of h3),Z;rw[cB];refine⟨Y,Y,Z,Y,cR (λc1=>?_) (λc1=>?_)⟩
  ·have VH:0+(↑(aU sh (es.take i)):Int)+(↑(aX sh e):Int)<=p:=of_decide_eq_true c1;rw[if_pos VH]at eA eB;refine⟨Y,.inl ⟨rfl,_,bG.of Ib⟩,Y,A,Z,Ib,aQ (by rw[cB];lia),?_⟩;refine⟨Y,⇑(.int e),⇑↥o,⇑(.int (0+(↑(aU sh (es.take i)):Int)+(↑(aX sh e):Int))),?_,?_,?_,bH hA (s2.trans s3) (aG A _ _)⟩
   ·rw[eF];rfl
   ·rw[af,eA,gE];rfl
   ·rw[aL Br.symm,eB,fV];exact Ut
  ·have VH:¬ 0+(↑(aU sh (es.take i)):Int)+(↑(aX sh e):Int)<=p:=λz=>c1 (decide_eq_true z);rw[if_neg VH]at eA eB;refine⟨Y,Y,Z,Y,cR (λc2=>?_) (λc2=>?_)⟩
   ·have M4:p<=0+(↑(aU sh (es.take i)):Int):=of_decide_eq_true c2;rw[if_pos M4]at eA eB;refine⟨Y,.inl ⟨rfl,_,bG.of Ut⟩,Y,B,Z,Ut,aQ (by rw[cB];lia),?_⟩;refine⟨Y,⇑(.int e),⇑↥o,⇑(.int (0+(↑(aU sh (es.take i)):Int)+(↑(aX sh e):Int))),?_,?_,?_,bH NQ (s2.trans s3) (aG B _ _)⟩
    ·rw[eF];rfl
    ·rw[aL Br,eA,fV];exact Ib
    ·rw[af,eB,gE];rfl
   ·have M4:¬ p<=0+(↑(aU sh (es.take i)):Int):=λz=>c2 (decide_eq_true z);rw[if_neg M4]at eA eB;rw[eA,cT]at lA;rw[eB,cT]at lB;refine⟨Y,.inl ⟨rfl,_,bG.of Ib⟩,Y,Y,Y,Z,Y,o,Y,bG.of h3,λq1 Rm=>?_⟩;have n1:aI H3 (aN H3 q1 (.lst (ki ((aX sh e).map V.int) none (⇑(p-(0+(↑(aU sh (es.take i)):Int))))))):=ak Rm _;have e1:ki ((aX sh e).map V.int) none (⇑(p-(0+(↑(aU sh (es.take i)):Int))))=((aX sh e).take (p-(0+(↑(aU sh (es.take i)):Int))).toNat).map V.int:=by rw[ve _ ∅,List.map_take]
    refine⟨A,q1,Z,n1 _ _ Ib,af,gG (aQ (by rw[e1,cB,cB];lia)),?_⟩;have k4:cz A H3 (aN (aN H3 q1 (.lst (ki ((aX sh e).map V.int) none (⇑(p-(0+(↑(aU sh (es.take i)):Int))))))) A (.lst ((aE sh p 0 (es.take i)).map V.int++ki ((aX sh e).map V.int) none (⇑(p-(0+(↑(aU sh (es.take i)):Int))))))):=cz.trans (aI.keep n1) (aG A _ _);have no:o≠A:=(aA Qz ho).symm;have nqA:q1≠A:=(aA Ib Rm).symm;have hB4:=k4 _ _ Ut Br.symm;refine⟨Y,.inl ⟨rfl,_,bG.of hB4⟩,Y,Y,Y,Z,Y,o,Y,bG.of (k4 _ _ h3 no),λq2 eN=>?_⟩;have e2:ki ((aX sh e).map V.int) (⇑(p-(0+(↑(aU sh (es.take i)):Int)))) none=((aX sh e).drop (p-(0+(↑(aU sh (es.take i)):Int))).toNat).map V.int:=by rw[xV _ ∅,List.map_drop]
    refine⟨B,q2,Z,ak eN _ _ _ hB4,af,gG (aQ (by rw[e2,cB,cB];lia)),?_⟩;exists Y,⇑(.int e),⇑↥o,⇑(.int (0+(↑(aU sh (es.take i)):Int)+(↑(aX sh e):Int))),?_,?_,?_
    ·rw[eF];rfl
    ·rw[aL Br,ak eN _ _ _ af,eA,gE,e1]
    ·rw[af,eB,gE,e2]
    ·exact bH NQ ((bH hA (s2.trans s3) k4).trans (ak eN _)) (aG B _ _)
 ·rintro σ H2 ⟨u1,u2,u3,rfl,Qz,hB2,s2⟩;rw[cB,gH]at Qz hB2;have lA:=EE sh p es 0;have lB:=EF sh p es 0;refine⟨Y,Y,A,n,Z,Qz,s2 _ _ hn,gG (aQ (by rw[cB,cB];lia)),λc1 SV=>?_⟩;have n1:aI H2 (aN H2 c1 (.lst ((aE sh p 0 es).map V.int++new.map V.int))):=ak SV _;refine⟨Y,c1,B,Z,af,n1 _ _ hB2,gG (aQ (by rw[cT,cB,cB,cB];lia)),λc2 HZ=>?_⟩;refine k es c2 _ eV ?_ ?_ (s2.trans (n1.trans (ak HZ _))) (aR (s2.trans n1) HZ)
  ·rw[af];unfold fH;rw[if_neg c',gE,gE]
  ·unfold fH;rw[if_neg c',cT,cT];lia
def Rv(sh:Int->List Int)(a b f e:Int):List Int:=if a=b then [e] else Lq sh a b f e
def Rw(sh:Int->List Int)(a b f e:Int):List Int:=if a=b then [] else NS sh a b f e
def G2(sh:Int->List Int)(a b:Int)(es:List Int)(e:Int):bR sh a b (es++[e])=bR sh a b es++Rv sh a b (0+(↑(aU sh es):Int)) e:=by
 unfold bR Rv;split
 ·rfl
 ·rw[xT,kE,kE,fV]
def G3(sh:Int->List Int)(a b:Int)(es:List Int)(e:Int):iA sh a b (es++[e])=iA sh a b es++Rw sh a b (0+(↑(aU sh es):Int)) e:=by
 unfold iA Rw;split
 ·rfl
 ·rw[xU,tE,tE,fV]
def Uu(sh:Int->List Int)(a b f e:Int):↑(Rv sh a b f e)<=1+2*↑(aX sh e):=by
 unfold Rv Lq;split
 ·simp
 ·split
  ·simp
  ·split
   ·simp
   ·rw[cT,gr,qH];lia
def Uv(sh:Int->List Int)(a b f e:Int):↑(Rw sh a b f e)<=1+2*↑(aX sh e):=by
 unfold Rw NS;split
 ·simp
 ·split
  ·simp
  ·split
   ·simp
   ·rw[qH,gr];lia
theorem QA(sh:Int->List Int)(a b:Int):∀ (es:List Int) (f:Int),↑(kE sh a b f es)<=↑es+2*↑(aU sh es)
 | [],_=>by simp[kE]
 | e::r,f=>by
  rw[kE,bX,cT,cT,jS];have x:=QA sh a b r (f+↑(aX sh e))
  have y:↑(Lq sh a b f e)<=1+2*↑(aX sh e):=by
   unfold Lq;split
   ·simp
   ·split
    ·simp
    ·rw[cT,gr,qH];lia
  lia
theorem QB(sh:Int->List Int)(a b:Int):∀ (es:List Int) (f:Int),↑(tE sh a b f es)<=↑es+2*↑(aU sh es)
 | [],_=>by simp[tE]
 | e::r,f=>by
  rw[tE,bX,cT,cT,jS];have x:=QB sh a b r (f+↑(aX sh e))
  have y:↑(NS sh a b f e)<=1+2*↑(aX sh e):=by
   unfold NS;split
   ·simp
   ·split
    ·simp
    ·rw[qH,gr];lia
  lia
def vm(sh:Int->List Int)(a b:Int)(es:List Int):↑(bR sh a b es)<=↑es+2*↑(aU sh es):=by
 unfold bR;split
 ·lia
 ·exact QA sh a b es 0
def A8(sh:Int->List Int)(a b:Int)(es:List Int):↑(iA sh a b es)<=↑es+2*↑(aU sh es):=by
 unfold iA;split
 ·simp
 ·exact QB sh a b es 0
class inductive QF(d:Nat)
 | mk (av:Addr->Prop) (r:Addr) (rows:cJ) (s a b:Int) (sh:Int->List Int) (rk:Int->Nat) (_:vs=[↥r,.int s,.int a,.int b]) (_:iu av H r rows) (_:↑rows<=1000) (_:(∀ es∈rows,↑es<=1000)) (_:gf rows) (_:kF rows sh) (_:(∀ x:Int,0<=x->x<↑rows->↑(sh x)<=10000)) (_:(∀ x y,gO rows x y->rk y<rk x)) (_:0<=s) (_:s<↑rows) (_:rk s<=d) (_:a<=b) (_ :
 ∀ (es:List Int) (t L M:Addr) (H':Hp),rows[s.toNat]?=⇑es->H' t=⇑(.tup [↥L,↥M])->H' L=⇑(.lst ((bR sh a b es).map V.int))->H' M=⇑(.lst ((iA sh a b es).map V.int))->aI H H'->H L=none->H M=none->L≠M->Q ↥t H')
theorem gn:aF ["_law_rows","_law_sheet","_law_start","_law_stop","_law_kept","_law_taken","_law_first","_law_entry","_law_pieces_here","_law_last","_law_low","_law_high"] ["_law_rows","_law_sheet","_law_start","_law_stop"] (az xq):=eO
def JW(D:Ds K mg aY bf C CS CW CB CT CD){d:Nat}:bq P w K mg zt cO (d+3) (aY 93) (bf 93) ["_law_rows","_law_sheet","_law_start","_law_stop"] (QF d):=by
 have qu:bq P w K mg zt cO (d+2) _ _ zl8 (yi d):=ur D;refine eS D.XD.F gn λcU A zn s0 H vs Q E hr h=>?_;let⟨av,r,rows,s,p,q,sh,rk,rfl,R,dJ,hes,pC,yz,E7,yV,h0,h1,hd,hpq,k⟩:=h;obtain⟨es,eV⟩:∃ es,rows[s.toNat]?=⇑es:=⟨_,tK ∅⟩;have esl:=hes es (nJ eV);have shs:=yz s es h0 eV;have shl:=E7 s h0 h1;rw[shs]at shl;let⟨qL,b,vt,D6,hb0,hrl⟩:=R.get eV
 have vX:qJ qL s=⇑↥b:=by
  have z:=dm D6;rw[show ((s.toNat:Nat):Int)=s by lia]at z;exact z
 exists _,(aj (aZ (i:=4) gn.nd (bL ah)) (aj (aZ (i:=5) gn.nd (bL ah)) (aj (aZ (i:=6) gn.nd ay) (aj (dX PassesOwn.never rfl (cu (aO bu (pv 0) (pv 1))) (bQ (i:=7) gn.nd) (aj (aZ (i:=8) gn.nd (aH D.XC qu hr (aa (pv 0) (aa (pv 7) ah)))) (aj (aZ (i:=9) gn.nd (bz dH (pv 6) (gp D.T.gg (pv 8)))) (aj (aZ (i:=10) gn.nd (bY (lX rfl) rfl D.T.Ax PyProof.Rows.boot_max (aa ay (aa (bz cY (pv 2) (pv 6)) ah)))) (aj (aZ (i:=11) gn.nd (bz cY (bY (oG rfl) rfl D.T.Gb PyProof.Rows.boot_min (aa (pv 9) (aa (pv 3) ah))) (pv 6))) (aj (bO (PW.pt (Kz (aV dY (pv 2) (pv 3) (bh _)) (Kz (aV fY (pv 9) (pv 2) (bh _)) (Ih (aV fY (pv 3) (pv 6) (bh _)))))) (au (aT (dQ qF jV jW bS (pv 4) (aa (pv 7) ah)))) (au (bO (PW.pt (kO (aV fY (pv 2) (pv 6) (bh _)) (j6 (aV fY (pv 9) (pv 3) (bh _))))) (au (aT (dQ qF jV jW bS (pv 5) (aa (pv 7) ah)))) (aj (aT (dQ qF PySem.F.slot_list_extend PySem.F.type_list_extend jY (pv 4) (aa (bz jC (gZ lP (pv 8) lO (iG (pv 10))) (gZ lP (pv 8) (iG (pv 11)) lO)) ah))) (au (aT (dQ qF PySem.F.slot_list_extend PySem.F.type_list_extend jY (pv 5) (aa (gZ lP (pv 8) (iG (pv 10)) (iG (pv 11))) ah)))))))) (au (aZ (i:=6) gn.nd (pv 9))))))))) (au (aJ (cH (aa (pv 4) (aa (pv 5) ah)))))))));refine⟨gQ,λA hA=>⟨gQ,λB hB=>?_⟩⟩;have sA:aI H (aN H A (.lst [])):=ak hA _;have sB:aI _ (aN (aN H A (.lst [])) B (.lst [])):=ak hB _;have s1:=sA.trans sB;have Br:A≠B:=aA af hB;have NQ:=aR sA hB
 have z0:bR sh p q []=[]/\iA sh p q []=[]:=by
  unfold bR iA
  constructor <;> split <;> rfl
 refine⟨Y,Y,r,Q,K,bG.of (s1 _ _ vt),vX,b,rfl,⟨_,bG.of (s1 _ _ hb0)⟩,dB (K:=K) (a:=b) (xs:=es.map V.int) (λi σ H2=>∃ u1 u2 u3 u4 u5:Option V,σ=[⇑↥r,⇑(.int s),⇑(.int p),⇑(.int q),⇑↥A,⇑↥B,⇑(.int (0+(↑(aU sh (es.take i)):Int))),u1,u2,u3,u4,u5]/\H2 A=⇑(.lst ((bR sh p q (es.take i)).map V.int))/\H2 B=⇑(.lst ((iA sh p q (es.take i)).map V.int))/\aI H H2) ⟨none,none,none,none,none,rfl,(by rw[List.take_zero,z0.1];exact sB _ _ af),(by rw[List.take_zero,z0.2];exact af),s1⟩ (by rintro i σ H2 _ ⟨_,_,_,_,_,_,_,_,s2⟩;exact bG.of (s2 _ _ hb0)) ?_ ?_⟩
 ·rintro i x σ H2 hi ⟨u1,u2,u3,u4,u5,rfl,Qz,hB2,s2⟩;rw[mY]at hi;let⟨e,ex,rfl⟩:=Option.map_eq_some_iff.mp hi;have st:=take_snoc ex;have eA:=G2 sh p q (es.take i) e;have eB:=G3 sh p q (es.take i) e;rw[← st]at eA eB
  have eF:(0+(↑(aU sh (es.take (i+1))):Int))=0+(↑(aU sh (es.take i)):Int)+↑(aX sh e):=by
   rw[st,jL,bX,cT,cT];simp[aU]
  have lA0:=vm sh p q (es.take i);have lB0:=A8 sh p q (es.take i);have l1:=qt sh es (i+1);have l0:=qt sh es i
  have le:↑(aX sh e)<=↑(aU sh (es.take (i+1))):=by
   rw[st,jL,bX,cT,cT];lia
  have lkk:=Uu sh p q (0+(↑(aU sh (es.take i)):Int)) e;have ltt:=Uv sh p q (0+(↑(aU sh (es.take i)):Int)) e;have t0:↑(es.take i)<=↑es:=by rw[gr];lia
  generalize hf:0+(↑(aU sh (es.take i)):Int)=fi at *;refine⟨Y,Y,av,r,rows,e,sh,rk,rfl,R.same s2,dJ,pC,yz,E7,yV,λagc=>?_,λo H3 h3 s3 ho=>?_⟩
  ·have nx:gO rows s (-1-e):=⟨h0,es,eV,cD.mpr ⟨by lia,by rw[show -1-(-1-e)=e by lia];exact nJ ex⟩⟩;have:=yV _ _ nx;exact⟨(pC.Bp nx).2,by lia⟩
  have Ib:=s3 _ _ Qz;have Ut:=s3 _ _ hB2;exists Y,Y,o,Y,.inl (bG.of h3),Z;rw[cB];exists Y,Y,Z,E,rfl;exists Y,Y,E,rfl,Y,Z
  have lo0:(if p-fi > 0 then p-fi else 0).toNat=(p-fi).toNat/\0<=(if p-fi > 0 then p-fi else 0):=by
   split <;> lia
  have AF:(p=q\/(fi+(↑(aX sh e):Int))<=p\/q<=fi)->(aN H3 A (.lst ((bR sh p q (es.take i)).map V.int++[.int e]))) A=⇑(.lst ((bR sh p q (es.take (i+1))).map V.int))/\(aN H3 A (.lst ((bR sh p q (es.take i)).map V.int++[.int e]))) B=⇑(.lst ((iA sh p q (es.take (i+1))).map V.int)):=λc=>by
   have e1:Rv sh p q fi e=[e]:=by
    unfold Rv Lq;rcases c with c|c
    ·rw[if_pos c]
    ·rw[if_pos c];split <;> rfl
   have e2:Rw sh p q fi e=[]:=by
    unfold Rw NS;rcases c with c|c
    ·rw[if_pos c]
    ·rw[if_pos c];split <;> rfl
   rw[af,aL Br.symm,eA,eB,e1,e2,fV,gE];exact⟨rfl,Ut⟩
  have stf:∀ y:Option V,[⇑(V.ref r),⇑(.int s),⇑(.int p),⇑(.int q),⇑↥A,⇑↥B,⇑(.int (fi+(↑(aX sh e):Int))),⇑(.int e),⇑↥o,⇑(.int (fi+(↑(aX sh e):Int))),⇑(.int (if p-fi > 0 then p-fi else 0)),y]=[⇑↥r,⇑(.int s),⇑(.int p),⇑(.int q),⇑↥A,⇑↥B,⇑(.int (0+(↑(aU sh (es.take (i+1))):Int))),⇑(.int e),⇑↥o,⇑(.int (fi+(↑(aX sh e):Int))),⇑(.int (if p-fi > 0 then p-fi else 0)),y]:=λy=>by rw[eF]
  have keepR:∀ c:(p=q\/(fi+(↑(aX sh e):Int))<=p\/q<=fi),∃ u1 u2 u3 u4 u5:Option V,[⇑(V.ref r),⇑(.int s),⇑(.int p),⇑(.int q),⇑↥A,⇑↥B,⇑(.int (fi+(↑(aX sh e):Int))),⇑(.int e),⇑↥o,⇑(.int (fi+(↑(aX sh e):Int))),⇑(.int (if p-fi > 0 then p-fi else 0)),⇑(.int ((if q<(fi+(↑(aX sh e):Int)) then q else (fi+(↑(aX sh e):Int)))-fi))]=[⇑↥r,⇑(.int s),⇑(.int p),⇑(.int q),⇑↥A,⇑↥B,⇑(.int (0+(↑(aU sh (es.take (i+1))):Int))),u1,u2,u3,u4,u5]/\(aN H3 A (.lst ((bR sh p q (es.take i)).map V.int++[.int e]))) A=⇑(.lst ((bR sh p q (es.take (i+1))).map V.int))/\(aN H3 A (.lst ((bR sh p q (es.take i)).map V.int++[.int e]))) B=⇑(.lst ((iA sh p q (es.take (i+1))).map V.int))/\aI H (aN H3 A (.lst ((bR sh p q (es.take i)).map V.int++[.int e]))):=λc =>
   ⟨Q,E,stf _,(AF c).1,(AF c).2,bH hA (s2.trans s3) (aG A _ _)⟩
  have mA:↑((bR sh p q (es.take i)).map V.int)<sizeLine:=aQ (by rw[cB];lia);refine⟨Y,Y,rfl,Y,cR (λc1=>iX ?_) (λc1=>?_)⟩
  ·exact⟨Y,.inl ⟨rfl,_,bG.of Ib⟩,Y,A,Z,Ib,mA,Y,keepR (.inl (V.int.inj (of_decide_eq_true c1)))⟩
  have VH:¬ p=q:=λz=>c1 (by rw[z];exact decide_eq_true rfl);refine⟨Y,Y,Z,Y,cR (λc2=>iX ?_) (λc2=>?_)⟩
  ·exact⟨Y,.inl ⟨rfl,_,bG.of Ib⟩,Y,A,Z,Ib,mA,Y,keepR (.inr (.inl (of_decide_eq_true c2)))⟩
  have M4:¬ (fi+(↑(aX sh e):Int))<=p:=λz=>c2 (decide_eq_true z);refine⟨Y,Y,Z,Y,cR (λc3=>?_) (λc3=>?_)⟩
  ·exact⟨Y,.inl ⟨rfl,_,bG.of Ib⟩,Y,A,Z,Ib,mA,Y,keepR (.inr (.inr (of_decide_eq_true c3)))⟩
  have c3':¬ q<=fi:=λz=>c3 (decide_eq_true z);have n1:¬ ((fi+(↑(aX sh e):Int))<=p\/q<=fi):=λz=>z.elim M4 c3'
  have hh:((if q<(fi+(↑(aX sh e):Int)) then q else (fi+(↑(aX sh e):Int)))-fi).toNat=min ↑(aX sh e) (q-fi).toNat/\0<=(if q<(fi+(↑(aX sh e):Int)) then q else (fi+(↑(aX sh e):Int)))-fi:=by
   split <;> lia
  have pq:p<q:=by lia
  have vv:¬ (p<=fi/\(fi+(↑(aX sh e):Int))<=q)->Rv sh p q fi e=(aX sh e).take (if p-fi > 0 then p-fi else 0).toNat++(aX sh e).drop ((if q<(fi+(↑(aX sh e):Int)) then q else (fi+(↑(aX sh e):Int)))-fi).toNat/\Rw sh p q fi e=((aX sh e).take ((if q<(fi+(↑(aX sh e):Int)) then q else (fi+(↑(aX sh e):Int)))-fi).toNat).drop (if p-fi > 0 then p-fi else 0).toNat:=λc4=>by
   unfold Rv Rw Lq NS;rw[if_neg VH,if_neg VH,if_neg n1,if_neg n1,if_neg c4,if_neg c4,lo0.1,hh.1];rcases Nat.le_total (q-fi).toNat ↑(aX sh e) with z|z
   ·rw[Nat.min_eq_right z];exact⟨K⟩
   ·rw[Nat.min_eq_left z,zF z,zF (fK _),uv z,uv (fK _)];exact⟨K⟩
  refine⟨Y,Y,Z,Y,O5 (λz=>⟨Y,Y,Z,Y,z⟩) (λc6=>?_) (λc6=>?_)⟩
  ·have e1:Rv sh p q fi e=[]:=by unfold Rv Lq;rw[if_neg VH,if_neg n1,if_pos c6]
   have e2:Rw sh p q fi e=[e]:=by unfold Rw NS;rw[if_neg VH,if_neg n1,if_pos c6]
   refine⟨Y,.inl ⟨rfl,_,bG.of Ut⟩,Y,B,Z,Ut,aQ (by rw[cB];lia),Y,Q,E,stf _,?_,?_,bH NQ (s2.trans s3) (aG B _ _)⟩
   ·rw[aL Br,eA,e1,fV];exact Ib
   ·rw[af,eB,e2,gE];rfl
  ·let⟨r1,r2⟩:=vv c6;rw[r1,cT]at lkk;rw[r2]at ltt;refine⟨Y,.inl ⟨rfl,_,bG.of Ib⟩,Y,Y,Y,o,Y,bG.of h3,λq1 Rm=>?_⟩;rw[ve _ lo0.2,← List.map_take];have n4:aI H3 (aN H3 q1 (.lst (((aX sh e).take (if p-fi > 0 then p-fi else 0).toNat).map V.int))):=ak Rm _;refine⟨Y,Y,Y,o,Y,bG.of (n4 _ _ h3),λq2 eN=>?_⟩;rw[xV _ hh.2,← List.map_drop];have n5:aI _ (aN (aN H3 q1 (.lst (((aX sh e).take (if p-fi > 0 then p-fi else 0).toNat).map V.int))) q2 (.lst (((aX sh e).drop ((if q<(fi+(↑(aX sh e):Int)) then q else (fi+(↑(aX sh e):Int)))-fi).toNat).map V.int))):=ak eN _;refine⟨q1,q2,Z,n5 _ _ af,af,(by rw[cB,cB];exact gG (aQ ∅)),λq3 Pk=>?_⟩;have n6:aI _ (aN (aN (aN H3 q1 (.lst (((aX sh e).take (if p-fi > 0 then p-fi else 0).toNat).map V.int))) q2 (.lst (((aX sh e).drop ((if q<(fi+(↑(aX sh e):Int)) then q else (fi+(↑(aX sh e):Int)))-fi).toNat).map V.int))) q3 (.lst (((aX sh e).take (if p-fi > 0 then p-fi else 0).toNat).map V.int++((aX sh e).drop ((if q<(fi+(↑(aX sh e):Int)) then q else (fi+(↑(aX sh e):Int)))-fi).toNat).map V.int))):=ak Pk _;have n46:=n4.trans (n5.trans n6);have h63:(aN (aN (aN H3 q1 (.lst (((aX sh e).take (if p-fi > 0 then p-fi else 0).toNat).map V.int))) q2 (.lst (((aX sh e).drop ((if q<(fi+(↑(aX sh e):Int)) then q else (fi+(↑(aX sh e):Int)))-fi).toNat).map V.int))) q3 (.lst (((aX sh e).take (if p-fi > 0 then p-fi else 0).toNat).map V.int++((aX sh e).drop ((if q<(fi+(↑(aX sh e):Int)) then q else (fi+(↑(aX sh e):Int)))-fi).toNat).map V.int))) q3=⇑(.lst (((aX sh e).take (if p-fi > 0 then p-fi else 0).toNat).map V.int++((aX sh e).drop ((if q<(fi+(↑(aX sh e):Int)) then q else (fi+(↑(aX sh e):Int)))-fi).toNat).map V.int)):=af;generalize aN (aN (aN H3 q1 (.lst (((aX sh e).take (if p-fi > 0 then p-fi else 0).toNat).map V.int))) q2 (.lst (((aX sh e).drop ((if q<(fi+(↑(aX sh e):Int)) then q else (fi+(↑(aX sh e):Int)))-fi).toNat).map V.int))) q3 (.lst (((aX sh e).take (if p-fi > 0 then p-fi else 0).toNat).map V.int++((aX sh e).drop ((if q<(fi+(↑(aX sh e):Int)) then q else (fi+(↑(aX sh e):Int)))-fi).toNat).map V.int))=H6 at n46 h63;refine⟨A,q3,Z,n46 _ _ Ib,h63,(by rw[cT,cB,cB,cB];exact gG (aQ ∅)),?_⟩;have k7:cz A H6 (aN H6 A (.lst ((bR sh p q (es.take i)).map V.int++(((aX sh e).take (if p-fi > 0 then p-fi else 0).toNat).map V.int++((aX sh e).drop ((if q<(fi+(↑(aX sh e):Int)) then q else (fi+(↑(aX sh e):Int)))-fi).toNat).map V.int)))):=aG A _ _;have hA7:(aN H6 A (.lst ((bR sh p q (es.take i)).map V.int++(((aX sh e).take (if p-fi > 0 then p-fi else 0).toNat).map V.int++((aX sh e).drop ((if q<(fi+(↑(aX sh e):Int)) then q else (fi+(↑(aX sh e):Int)))-fi).toNat).map V.int)))) A=⇑(.lst ((bR sh p q (es.take (i+1))).map V.int)):=by rw[af,eA,r1,gE,gE]
   have no:o≠A:=(aA Qz ho).symm;have h37:=k7 _ _ (n46 _ _ h3) no;have hB7:=k7 _ _ (n46 _ _ Ut) Br.symm;have sm7:=bH hA (s2.trans (s3.trans n46)) k7;generalize aN H6 A (.lst ((bR sh p q (es.take i)).map V.int++(((aX sh e).take (if p-fi > 0 then p-fi else 0).toNat).map V.int++((aX sh e).drop ((if q<(fi+(↑(aX sh e):Int)) then q else (fi+(↑(aX sh e):Int)))-fi).toNat).map V.int)))=H7 at k7 hA7 h37 hB7 sm7;refine⟨Y,.inl ⟨rfl,_,bG.of hB7⟩,Y,Y,Y,Y,Y,o,Y,bG.of h37,λq4 TH=>?_⟩;rw[GJ _ lo0.2 hh.2,← List.map_take,← List.map_drop];refine⟨B,q4,Z,ak TH _ _ _ hB7,af,(by rw[cB,cB];exact gG (aQ ∅)),?_⟩;refine⟨Y,Q,E,stf _,?_,?_,bH NQ (sm7.trans (ak TH _)) (aG B _ _)⟩
   ·rw[aL Br];exact ak TH _ _ _ hA7
   ·rw[af,eB,r2,gE]
 ·rintro σ H2 ⟨u1,u2,u3,u4,u5,rfl,Qz,hB2,s2⟩;rw[cB,gH]at Qz hB2;refine⟨Y,Y,oX,λt ht=>k es t A B _ eV af (ak ht _ _ _ Qz) (ak ht _ _ _ hB2) (s2.trans (ak ht _)) hA NQ Br⟩
class inductive tG(d:Nat)
 | mk (av:Addr->Prop) (r:Addr) (rows:cJ) (x:Int) (f:Int->Int) (rk:Int->Nat) (_:vs=[↥r,.int x]) (_:iu av H r rows) (_:↑rows<=1000) (_:gf rows) (_:0<=x) (_:x<↑rows) (_:Weighs rows f) (_:(∀ x y,gO rows x y->rk y<rk x)) (_:rk x<d) (_:Q (.int (f x)) H)
theorem iE:aF ["_law_rows","_law_sheet","_law_total","_law_entry"] ["_law_rows","_law_sheet"] (az nY):=eO
def yj(D:Ds K mg aY bf C CS CW CB CT CD){n:Nat}(BW:bq P w K mg zt cO (n+1) (aY 94) (bf 94) ["_law_rows","_law_sheet"] (tG n)):bq P w K mg zt cO (n+2) (aY 94) (bf 94) ["_law_rows","_law_sheet"] (tG (n+1)):=by
 specialize eS D.XE.F iE;let⟨av,r,rows,x,f,rk,rfl,R,dJ,pC,x0,x1,hf,yV,hd,k⟩:=h;obtain⟨es,eV⟩:∃ es,rows[x.toNat]?=⇑es:=⟨_,tK ∅⟩;let⟨qL,b,vt,D6,hb0,hrl⟩:=R.get eV
 have vX:qJ qL x=⇑↥b:=by
  have z:=dm D6;rw[show ((x.toNat:Nat):Int)=x by lia]at z;exact z
 exists _,(aj (aZ (i:=2) iE.nd ay) (aj (dX PassesOwn.never rfl (cu (aO bu (pv 0) (pv 1))) (bQ (i:=3) iE.nd) (aj (aZ (i:=2) iE.nd (bz dH (pv 2) ay)) (au (bO (aV jT (pv 3) ay (bh _)) (au (aZ (i:=2) iE.nd (bz dH (pv 2) (aH D.XE BW hr (aa (pv 0) (aa (bz cY (gv d7 ay) (pv 3)) ah)))))) br)))) (au (aJ (pv 2)))));refine⟨Y,Y,r,Q,K,bG.of vt,vX,b,rfl,⟨_,bG.of hb0⟩,dB (K:=K) (a:=b) (xs:=es.map V.int) (λi σ H2=>∃ u:Option V,σ=[⇑↥r,⇑(.int x),⇑(.int (kC f (es.take i))),u]/\H2=H) ⟨none,K⟩ (λi σ H2 _ ⟨E,e⟩=>by rw[e];exact bG.of hb0) ?_ ?_⟩
 ·rintro i e σ H2 hi ⟨u,rfl,rfl⟩;rw[mY]at hi;let⟨e,ex,rfl⟩:=Option.map_eq_some_iff.mp hi
  have st:kC f (es.take (i+1))=kC f (es.take i)+(if e<0 then 1+f (-1-e) else 1):=by
   rw[take_snoc ex];unfold kC;rw[gE,List.sum_append];simp
  exists Y,Z;refine⟨Y,Z,Y,cR (λc=>?_) (λc=>?_)⟩
  ·have c':e<0:=of_decide_eq_true c;have HY:gO rows x (-1-e):=⟨x0,es,eV,cD.mpr ⟨by lia,by rw[show -1-(-1-e)=e by lia];exact nJ ex⟩⟩;let⟨y0,y1⟩:=pC.Bp HY;have rky:=yV _ _ HY;exists Y,Y,Y,Y,Z,av,r,rows,-1-e,f,rk,rfl,R,dJ,pC,y0,y1,hf,yV,by lia,Z;refine⟨⇑(.int e),?_,rfl⟩;rw[st,if_pos c'];show [⇑(V.ref r),⇑(V.int x),⇑(V.int (kC f (es.take i)+1+f (-1-e))),⇑(V.int e)]=_;rw[show kC f (es.take i)+1+f (-1-e)=kC f (es.take i)+(1+f (-1-e)) by lia]
  ·have c':¬ e<0:=λz=>c (decide_eq_true z);refine⟨⇑(.int e),?_,rfl⟩;rw[st,if_neg c'];rfl
 ·rintro σ H2 ⟨u,rfl,rfl⟩;rw[cB,gH,← hf x es x0 eV];exact⟨Y,k⟩
theorem rZ(D:Ds K mg aY bf C CS CW CB CT CD):∀ n:Nat,bq P w K mg zt cO (n+1) (aY 94) (bf 94) ["_law_rows","_law_sheet"] (tG n)
 | 0=>by
  have no:∀ vs H Q E,¬ tG 0 vs H Q E:=λvs H Q E h=>by
   let⟨_,_,_,_,_,_,_,_,_,_,_,_,_,_,h,_⟩:=h;exact Nat.not_lt_zero _ h
  exact⟨λvs H Q E h=>absurd h (no vs H Q E),λA zn s H args us vs Q E _ _ _ _ h=>absurd h (no vs H Q E)⟩
 | n+1=>yj D (rZ D n)
class inductive Ly
 | mk (e:Addr) (es:List Int) (_:vs=[↥e]) (_:H e=⇑(.lst (es.map V.int))) (_:↑es<=100000) (_ :
 ∀ (o:Addr) (H':Hp),bw H' ↥o (aC es)->aI H H'->H o=none->Q ↥o H')
theorem lG:aF ["_law_entries","_law_items","_law_entry"] ["_law_entries"] (az mJ):=eO
theorem zf:‹(1,95,["_law_entries"],Ly)›:=λD=>by
 specialize eS D.abr.F lG;let⟨e,es,rfl,he,dJ,k⟩:=h;exists _,(aj (aZ (i:=1) lG.nd (bL ah)) (aj (dX PassesOwn.never rfl (cu (pv 0)) (bQ (i:=2) lG.nd) (au (bO (aV jT (pv 2) ay (bh _)) (au (aT (dQ qF jV jW bS (pv 1) (aa (cH (aa bI (aa (bz cY (gv d7 ay) (pv 2)) ah))) ah)))) (au (bO (PW.pt (kO (aV Fq (gp D.T.gg (pv 1)) ay (bh _)) (kO (aV dY (aO aW (aO bu (pv 1) (gv d7 ay)) ay) bI (bh _)) (j6 (aV dY (aO aW (aO bu (pv 1) (gv d7 ay)) ay) (pv 2) (bh _)))))) (au (mj (cH (aa bI (aa (aO aW (aO bu (pv 1) (gv d7 ay)) ay) (aa (bz dH (pv 2) ay) ah)))) (pF (pv 1) (gv d7 ay) jB))) (au (aT (dQ qF jV jW bS (pv 1) (aa (cH (aa bI (aa (pv 2) (aa (bz dH (pv 2) ay) ah)))) ah))))))))) (au (aJ (pv 1)))));refine⟨gQ,λq hq=>?_⟩;have s0:aI H (aN H q (.lst [])):=ak hq _;refine⟨Y,e,rfl,⟨_,bG.of (s0 _ _ he)⟩,dB (K:=K) (a:=e) (xs:=es.map V.int) (λi σ H2=>∃ (vs:List V) (u:Option V),σ=[⇑↥e,⇑↥q,u]/\H2 q=⇑(.lst vs)/\cj (cS H2) vs ((es.take i).foldl bg [])/\aI H H2) ⟨[],none,rfl,af,.nil,s0⟩ (by rintro i σ H2 _ ⟨_,_,_,_,_,s⟩;exact bG.of (s _ _ he)) ?_ ?_⟩
 ·rintro i x σ H2 hi ⟨vs,u,rfl,eN,hb,s⟩;rw[mY]at hi;let⟨x,ex,rfl⟩:=Option.map_eq_some_iff.mp hi;have step:(es.take (i+1)).foldl bg []=bg ((es.take i).foldl bg []) x:=by rw[take_snoc ex,List.foldl_append];rfl
  have bl:↑vs<sizeLine:=by
   have z:=hb.len;have z2:=oV (es.take i) [];rw[gr,lM]at z2;exact aQ ∅
  refine⟨Y,Z,Y,cR (λc=>?_) (λc=>?_)⟩
  ·have c':x<0:=of_decide_eq_true c;rw[bg,if_pos c']at step;refine⟨Y,.inl ⟨rfl,_,bG.of eN⟩,Y,Y,Z,oX,λt ht=>⟨q,Z,ak ht _ _ _ eN,bl,?_⟩⟩;refine⟨vs++[↥t],Y,af,?_,bH hq (s.trans (ak ht _)) (aG q _ _)⟩;rw[step];exact cj.new (it:=.win (-1-x)) eN hb ht _
  ·have c':¬ x<0:=λz=>c (decide_eq_true z);rw[bg,if_neg c']at step;rcases qG ((es.take i).foldl bg []) with hn|⟨t0,l0,hn⟩
   ·rw[hn]at hb step;have hvs:vs=[]:=List.eq_nil_of_length_eq_zero hb.len;subst hvs;refine⟨Y,q,Y,.inl (bG.of eN),Z,Y,eL (eL ?_)⟩;refine⟨Y,.inl ⟨rfl,_,bG.of eN⟩,Y,Y,Z,F9,λt ht=>⟨q,Z,ak ht _ _ _ eN,bl,?_⟩⟩;refine⟨[]++[↥t],Y,af,?_,bH hq (s.trans (ak ht _)) (aG q _ _)⟩;rw[step];exact cj.new (it:=.aK x (x+1)) eN hb ht _
   ·rw[nK]at hn;rw[hn,tN,List.dropLast_concat]at step;rw[hn]at hb;let⟨us,v0,rfl,hb0,a0,rfl,Ll⟩:=hb.split;refine⟨Y,q,Y,.inl (bG.of eN),Z,Y,cR (λ_=>?_) (λz=>absurd (decide_eq_true (by simp)) z)⟩
    cases l0 with
    | win n =>
     refine⟨Y,Y,q,Q,K,bG.of eN,gx _ _,a0,Q,K,cW.of Ll,K,Y,cR (λz=>absurd z (by decide)) (λ_=>eL ?_)⟩;refine⟨Y,.inl ⟨rfl,_,bG.of eN⟩,Y,Y,Z,F9,λt ht=>⟨q,Z,ak ht _ _ _ eN,bl,?_⟩⟩;refine⟨E,rfl,af,?_,bH hq (s.trans (ak ht _)) (aG q _ _)⟩;rw[step];exact cj.new (it:=.aK x (x+1)) eN hb ht _
    | aK p1 p2 =>
     refine⟨Y,Y,q,Q,K,bG.of eN,gx _ _,a0,Q,K,cW.of Ll,K,Y,cR (λ_=>?_) (λz=>absurd (by decide) z)⟩;refine⟨Y,Y,q,Q,K,bG.of eN,gx _ _,a0,Q,K,cW.of Ll,rfl,Y,rfl,Y,cR (λc2=>?_) (λc2=>?_)⟩
     ·have e2:p2=x:=V.int.inj (of_decide_eq_true c2);refine⟨Y,Y,q,Q,K,bG.of eN,gx _ _,a0,Q,K,cW.of Ll,rfl,Y,Z,F9,λt ht=>?_⟩;refine⟨Y,Y,q,E,↑us,K,ak ht _ _ _ eN,(by rw[cT];exact Ae _),?_⟩;rw[Af];refine⟨E,rfl,af,?_,bH hq (s.trans (ak ht _)) (aG q _ _)⟩;rw[step];show cj _ _ (if p2=x then t0++[aS.aK p1 (x+1)] else _);rw[if_pos e2];exact cj.new (it:=.aK p1 (x+1)) eN hb0 ht _
     ·have e2:¬ p2=x:=λz=>c2 (decide_eq_true (congrArg V.int z));refine⟨Y,.inl ⟨rfl,_,bG.of eN⟩,Y,Y,Z,F9,λt ht=>⟨q,Z,ak ht _ _ _ eN,bl,?_⟩⟩;refine⟨E,rfl,af,?_,bH hq (s.trans (ak ht _)) (aG q _ _)⟩;rw[step];show cj _ _ (if p2=x then _ else t0++[aS.aK p1 p2]++[aS.aK x (x+1)]);rw[if_neg e2];exact cj.new (it:=.aK x (x+1)) eN hb ht _
 ·rintro σ H2 ⟨vs,u,rfl,eN,hb,s⟩;rw[cB,gH]at hb;exact⟨Y,k q H2 ⟨q,vs,rfl,eN,hb⟩ s hq⟩
def Reach.trans{E:Int->Int->Prop}{a b c:Int}(h:Reach E a b)(g:Reach E b c):Reach E a c:=by
 induction g with
 | one e=>exact .step h e
 | step _ e ih=>exact .step ih e
theorem G4{p q:Nat->Bool}(h:∀ i,p i=true->q i=true):∀ n,cnt n p<=cnt n q
 | 0=>fK _
 | n+1=>by
  rw[vO,vO];have ih:=G4 h n;by_cases c:p n=true
  ·rw[if_pos c,if_pos (h n c)];lia
  ·rw[if_neg c];lia
open Classical in
def Yo{rows:cJ}(sd:gf rows)(l:↑rows<=40)(h:∀ x,¬ Reach (gO rows) x x):Bq rows:=by
 refine⟨λx=>cnt ↑rows λi=>decide (Reach (gO rows) x (i:Int)),λx=>gX (As _ _) l,λx y n=>?_⟩;let⟨y0,y1⟩:=sd.Bp n;have yy:((y.toNat:Nat):Int)=y:=by lia
 have a:=G4 (p:=λi=>decide (Reach (gO rows) y (i:Int))) (q:=λi=>decide (Reach (gO rows) x (i:Int))&&decide (i≠y.toNat)) (λi hi=>by
  have r:=of_decide_eq_true hi;rw[Bool.and_eq_true];refine⟨decide_eq_true ((Reach.one n).trans r),decide_eq_true λz=>?_⟩;rw[z,yy]at r
  exact h _ r) ↑rows
 have b:=vP y.toNat ↑rows (p:=λi=>decide (Reach (gO rows) x (i:Int))) (q:=λi=>decide (Reach (gO rows) x (i:Int))&&decide (i≠y.toNat)) ∅ (decide_eq_true (by rw[yy];exact .one n)) (λ_=>rfl);show cnt _ _<cnt _ _;lia
def Lz{rows:cJ}{s:Nat}{es:List Int}{x y:Int}(h:gO (rows.set s es) x y)(ne:x.toNat≠s):gO rows x y:=by
 let⟨x0,tV,e,hy⟩:=h;rw[List.getElem?_set_ne (λz=>ne z.symm)]at e;exact⟨x0,tV,e,hy⟩
def QG{rows:cJ}{s:Int}{es:List Int}(s0:0<=s)(R:Bq rows)(n:¬ Reach (gO (rows.set s.toNat es)) s s):∀ x,¬ Reach (gO (rows.set s.toNat es)) x x:=by
 have key:∀ {a b:Int},Reach (gO (rows.set s.toNat es)) a b->Reach (gO rows) a b\/((a=s\/Reach (gO (rows.set s.toNat es)) a s)/\Reach (gO (rows.set s.toNat es)) s b):=by
  intro a b r
  induction r with
  | one e =>
   by_cases c:a.toNat=s.toNat
   ·have q:a=s:=by have:=e.1;lia
    rw[q]at e;exact .inr ⟨.inl q,.one e⟩
   ·exact .inl (.one (Lz e c))
  | @step y z r e ih =>
   by_cases c:y.toNat=s.toNat
   ·have q:y=s:=by have:=e.1;lia
    rw[q]at r e;exact .inr ⟨.inr r,.one e⟩
   ·rcases ih with i|i
    ·exact .inl (.step i (Lz e c))
    ·exact .inr ⟨i.1,.step i.2 e⟩
 intro x r;rcases key r with z|⟨z|z,y⟩
 ·exact R.irr z
 ·rw[z]at y;exact n y
 ·exact n (y.trans z)
def Nr(f:Int->Int)(e:Int)(r:List Int):kC f (e::r)=(if e<0 then 1+f (-1-e) else 1)+kC f r:=by unfold kC;rw[jy,List.sum_cons]
theorem LA{sh:Int->List Int}{f:Int->Int}:∀ {es:List Int},(∀ y∈dM es,(↑(sh y):Int)<=f y)->(↑es:Int)<=kC f es/\(↑(aU sh es):Int)<=kC f es
 | [],_=>by simp[kC,aU]
 | e::r,h=>by
  have ih:=LA (es:=r) λy hy=>h y (cD.mpr ⟨(cD.mp hy).1,nI _ (cD.mp hy).2⟩);rw[Nr,bX,cT,jS];unfold aX;by_cases c:e<0
  ·have z:=h (-1-e) (cD.mpr ⟨by lia,by rw[show -1-(-1-e)=e by lia];simp⟩);rw[if_pos c,if_pos c];lia
  ·rw[if_neg c,if_neg c,gV];lia
def G5{rows:cJ}{sh:Int->List Int}{f:Int->Int}(sd:gf rows)(R:Bq rows)(hs:kF rows sh)(hw:Weighs rows f):∀ x:Int,0<=x->∀ es,rows[x.toNat]?=⇑es->(↑es:Int)<=f x/\(↑(sh x):Int)<=f x:=by
 let⟨rk,_,hd⟩:=R
 have key:∀ (k:Nat) (x:Int),rk x<k->0<=x->∀ es,rows[x.toNat]?=⇑es->(↑es:Int)<=f x/\(↑(sh x):Int)<=f x:=by
  intro k
  induction k with
  | zero=>intro x h;lia
  | succ k ih =>
   intro x hx x0 es he;rw[hw x es x0 he,hs x es x0 he];refine LA λy hy=>?_;have n:gO rows x y:=⟨x0,es,he,hy⟩;let⟨y0,y1⟩:=sd.Bp n;have:=hd _ _ n;exact (ih y ∅ y0 _ (tK ∅)).2
 exact λx=>key (rk x+1) x (Nat.lt_succ_self _)
def QH{rows:cJ}{sh:Int->List Int}{N:Int->Prop}(pC:gf rows)(yV:Bq rows)(yz:kF rows sh)(hN:∀ es∈rows,∀ e∈es,0<=e->N e):∀ x:Int,0<=x->x<↑rows->∀ y∈sh x,N y:=by
 let⟨rk,hb,hd⟩:=yV
 have key:∀ (k:Nat) (x:Int),rk x<k->0<=x->x<↑rows->∀ y∈sh x,N y:=by
  intro k
  induction k with
  | zero=>intro x h;lia
  | succ k ih =>
   intro x hx x0 x1 y hy;have he:rows[x.toNat]?=⇑rows[x.toNat]:=tK ∅;rw[yz x _ x0 he]at hy;unfold aU at hy;let⟨e,hm,hy⟩:=List.mem_flatMap.mp hy;unfold aX at hy;by_cases c:e<0
   ·rw[if_pos c]at hy;have nx:gO rows x (-1-e):=⟨x0,_,he,cD.mpr ⟨by lia,by rw[show -1-(-1-e)=e by lia];exact hm⟩⟩;let⟨a,b⟩:=pC.Bp nx;have:=hd _ _ nx;exact ih _ ∅ a b y hy
   ·rw[if_neg c]at hy;rw[List.mem_singleton.mp hy];exact hN _ (nJ he) e hm ∅
 exact λx=>key (rk x+1) x (Nat.lt_succ_self _)
def uu(n m:Nat)(e:Int):Prop:=(0<=e/\e<(n:Nat))\/(e<0/\-1-e<(m:Nat))
structure Good(n:Nat)(rows:cJ):Prop where
 en:∀ es∈rows,∀ e∈es,uu n ↑rows e
 rk:Bq rows
 ln:↑rows<=40
 wt:∃ f,Weighs rows f/\∀ x:Int,0<=x->x<↑rows->f x<=200
theorem vn{n:Nat}{rows:cJ}(h:∀ es∈rows,∀ e∈es,uu n ↑rows e):gf rows:=λes he y hy=>by
 let⟨y0,hm⟩:=cD.mp hy;rcases h es he _ hm with z|z
 ·lia
 ·have:=z.2;lia
structure Gd(n:Nat)(rows:cJ)(sh:Int->List Int):Prop where
 sn:Seen rows sh
 Yp:∀ x:Int,0<=x->x<↑rows->∀ a∈sh x,0<=a/\a<(n:Nat)
 sl:∀ x:Int,0<=x->x<↑rows->↑(sh x)<=200
 es:∀ es∈rows,↑es<=200
 en:∀ es∈rows,∀ e∈es,uu n ↑rows e
 ln:↑rows<=40
def Good.es{n:Nat}{rows:cJ}(h:Good n rows):∀ es∈rows,↑es<=200:=by
 let⟨en,rk,ln,f,hw,hm⟩:=h;let⟨sh,hs⟩:=A6 rk;intro es he;let⟨i,hi⟩:=List.mem_iff_getElem?.mp he;have il:=(List.getElem?_eq_some_iff.mp hi).1;have a:=G5 (vn en) rk hs hw (i:Int) ∅ es (by rw[Int.toNat_natCast];exact hi);have:=hm (i:Int) ∅ ∅;lia
def Good.VI{n:Nat}{rows:cJ}(h:Good n rows):∃ sh,Gd n rows sh:=by
 have hes:=h.es;let⟨en,rk,ln,f,hw,hm⟩:=h;let⟨sh,hs⟩:=A6 rk;have sd:=vn en
 have sl:∀ x:Int,0<=x->x<↑rows->↑(sh x)<=200:=λx x0 x1=>by
  have a:=G5 sd rk hs hw x x0 _ (tK ∅);have:=hm x x0 x1;lia
 refine⟨sh,⟨λes he=>by have:=hes es he;lia,sd,rk,hs,λx x0 x1=>by have:=sl x x0 x1;lia⟩,QH sd rk hs (λes he e hm e0=>?_),sl,hes,en,ln⟩;rcases en es he e hm with z|z
 ·exact z
 ·lia
def Good.bears{n:Nat}{rows:cJ}(h:Good n rows):∃ f,nE rows f:=by
 have hes:=h.es;let⟨en,rk,ln,f,hw,hm⟩:=h;exact⟨f,by lia,λes he=>by have:=hes es he;lia,vn en,rk,hw,hm⟩
def QI{n:Nat}{rows:cJ}{s:Nat}{es:List Int}(h:∀ es∈rows,∀ e∈es,uu n ↑rows e)(g:∀ e∈es,uu n ↑rows e):∀ tV∈rows.set s es,∀ e∈tV,uu n ↑(rows.set s es) e:=by
 intro tV hm;rw[List.length_set];rcases List.mem_or_eq_of_mem_set hm with z|z
 ·exact h tV z
 ·rw[z];exact g
theorem G6{sh:Int->List Int}{N:Int->Prop}(hs:∀ e,N e->∀ x∈aX sh e,N x)(p:Int):∀ (es:List Int) (f:Int),(∀ e∈es,N e)->∀ x,x∈aE sh p f es\/x∈bE sh p f es->N x
 | [],_,_=>λx hx=>by rcases hx with z | z <;> cases z
 | e::r,f,h=>by
  intro x hx;rw[aE,bE,List.mem_append,List.mem_append]at hx;have he:=hs e (h e (by simp));have ih:=G6 hs p r (f+↑(aX sh e)) (λy hy=>h y (nI _ hy)) x;rcases hx with (z|z)|(z|z)
  ·split at z
   ·rw[List.mem_singleton.mp z];exact h e (by simp)
   ·split at z
    ·cases z
    ·exact he x (List.mem_of_mem_take z)
  ·exact ih (.inl z)
  ·split at z
   ·cases z
   ·split at z
    ·rw[List.mem_singleton.mp z];exact h e (by simp)
    ·exact he x (List.mem_of_mem_drop z)
  ·exact ih (.inr z)
theorem QJ{sh:Int->List Int}{N:Int->Prop}(hs:∀ e,N e->∀ x∈aX sh e,N x)(a b:Int):∀ (es:List Int) (f:Int),(∀ e∈es,N e)->∀ x,x∈kE sh a b f es\/x∈tE sh a b f es->N x
 | [],_,_=>λx hx=>by rcases hx with z | z <;> cases z
 | e::r,f,h=>by
  intro x hx;rw[kE,tE,List.mem_append,List.mem_append]at hx;have he:=hs e (h e (by simp));have ih:=QJ hs a b r (f+↑(aX sh e)) (λy hy=>h y (nI _ hy)) x;unfold Lq NS at hx;rcases hx with (z|z)|(z|z)
  ·split at z
   ·rw[List.mem_singleton.mp z];exact h e (by simp)
   ·split at z
    ·cases z
    ·rcases List.mem_append.mp z with z|z
     ·exact he x (List.mem_of_mem_take z)
     ·exact he x (List.mem_of_mem_drop z)
  ·exact ih (.inl z)
  ·split at z
   ·cases z
   ·split at z
    ·rw[List.mem_singleton.mp z];exact h e (by simp)
    ·exact he x (List.mem_of_mem_take (List.mem_of_mem_drop z))
  ·exact ih (.inr z)
def yk{sh:Int->List Int}{N:Int->Prop}(hs:∀ e,N e->∀ x∈aX sh e,N x){p:Int}{es new:List Int}(h:∀ e∈es,N e)(g:∀ e∈new,N e):∀ e∈fH sh p es new,N e:=by
 intro x hx;unfold fH at hx;split at hx
 ·exact h x hx
 ·rw[List.mem_append,List.mem_append]at hx;rcases hx with (z|z)|z
  ·exact G6 hs p es 0 h x (.inl z)
  ·exact g x z
  ·exact G6 hs p es 0 h x (.inr z)
def Gd.cl{n:Nat}{rows:cJ}{sh:Int->List Int}(h:Gd n rows sh):∀ e,uu n ↑rows e->∀ x∈aX sh e,uu n ↑rows x:=by
 intro e he x hx;unfold aX at hx;rcases he with z|z
 ·rw[if_neg ∅]at hx;rw[List.mem_singleton.mp hx];exact .inl z
 ·rw[if_pos z.1]at hx;exact .inl (h.Yp _ ∅ z.2 x hx)
def Gd.own{n:Nat}{rows:cJ}{sh:Int->List Int}(h:Gd n rows sh)(s:Int):∀ e∈gB.own rows s,uu n ↑rows e:=by
 unfold gB.own
 cases e:rows[s.toNat]? with
 | none=>exact λ_ z=>nomatch z
 | some es=>exact h.en es (nJ e)
inductive LD
 | put (s p:Int) (r:Addr) (row:Row)
 | cut (s a b:Int)
 | Uw (s a b t:Int)
 | VJ (t p s a b:Int)
 | win (t p s:Int)
 | fix (s:Int)
def LD.sh:LD->Int
 | .put s _ _ _=>s
 | .cut s _ _=>s
 | .Uw s _ _ _=>s
 | .VJ t _ _ _ _=>t
 | .win t _ _=>t
 | .fix s=>s
def LD.At(H:Hp)(d:Addr):LD->Prop
 | .put s p r row=>H d=⇑(.tup [.str "put",.int s,.int p,↥r])/\bW H r row
 | .cut s a b=>H d=⇑(.tup [.str "cut",.int s,.int a,.int b])
 | .Uw s a b t=>H d=⇑(.tup [.str "move",.int s,.int a,.int b,.int t])
 | .VJ t p s a b=>H d=⇑(.tup [.str "quote",.int t,.int p,.int s,.int a,.int b])
 | .win t p s=>H d=⇑(.tup [.str "window",.int t,.int p,.int s])
 | .fix s=>H d=⇑(.tup [.str "fix",.int s])
def LD.Ok(n m:Nat)(sh:Int->List Int):LD->Prop
 | .put s p _ row=>qM m s/\(0<=p/\p<=↑(sh s))/\↑row<=2/\∀ q∈row,0<=q.1/\q.1<q.2/\q.2<=(n:Nat)/\q.2<=q.1+40
 | .cut s a b=>qM m s/\Sw a b ↑(sh s)
 | .Uw s a b t=>qM m s/\Mv a b t ↑(sh s)
 | .VJ t p s a b=>qM m t/\(0<=p/\p<=↑(sh t))/\qM m s/\Sw a b ↑(sh s)
 | .win t p s=>qM m t/\(0<=p/\p<=↑(sh t))/\qM m s
 | .fix s=>qM m s
def LD.res(sh:Int->List Int)(rows:cJ):LD->List Int
 | .put s p _ row=>fH sh p (own rows s) (bK row)
 | .cut s a b=>bR sh a b (own rows s)
 | .Uw s a b t=>lS sh a b t (own rows s)
 | .VJ t p s a b=>fH sh p (own rows t) (((sh s).take b.toNat).drop a.toNat)
 | .win t p s=>fH sh p (own rows t) [-1-s]
 | .fix s=>sh s
def LD.Yp{n m:Nat}{sh:Int->List Int}{dd:LD}(h:dd.Ok n m sh):qM m dd.sh:=by
 cases dd with
 | fix=>exact h
 | _=>exact h.1
def LD.Yq{n:Nat}{rows:cJ}{sh:Int->List Int}(g:Gd n rows sh){dd:LD}(h:dd.Ok n ↑rows sh):∀ e∈dd.res sh rows,uu n ↑rows e:=by
 have cl:=g.cl
 cases dd with
 | put s p r row =>
  refine yk cl (g.own s) λe he=>.inl (Qx (λq hq=>?_) he);have:=h.2.2.2 q hq;exact⟨this.1,this.2.1,this.2.2.1⟩
 | cut s a b =>
  intro e he;unfold LD.res bR at he;dsimp only at he;split at he
  ·exact g.own s e he
  ·exact QJ cl a b _ 0 (g.own s) e (.inl he)
 | Uw s a b t =>
  intro e he;unfold LD.res lS at he;dsimp only at he;split at he
  ·exact g.own s e he
  ·have kk:=QJ cl a b (own rows s) 0 (g.own s);rw[List.mem_append,List.mem_append]at he;rcases he with (z|z)|z
   ·exact G6 cl t _ 0 (λy hy=>kk y (.inl hy)) e (.inl z)
   ·exact kk e (.inr z)
   ·exact G6 cl t _ 0 (λy hy=>kk y (.inl hy)) e (.inr z)
 | VJ t p s a b =>
  refine yk cl (g.own t) λe he=>.inl (g.Yp s h.2.2.1.1 h.2.2.1.2 e (List.mem_of_mem_take (List.mem_of_mem_drop he)))
 | win t p s =>
  refine yk cl (g.own t) λe he=>.inr ?_;rw[List.mem_singleton.mp he];have:=h.2.2;unfold qM at this;lia
 | fix s=>exact λe he=>.inl (g.Yp s h.1 h.2 e he)
def LD.At.same{H H':Hp}{d:Addr}{dd:LD}(s:aI H H')(h:dd.At H d):dd.At H' d:=by
 cases dd with
 | put=>exact⟨s _ _ h.1,h.2.same s⟩
 | _=>exact s _ _ h
theorem QK(sh:Int->List Int){a b:Int}{N:Int->Prop}:∀ (es:List Int) (f:Int),(∀ e∈es,∀ x∈aX sh e,N x)->∀ x∈kE sh a b f es,x∈es\/N x
 | [],_,_=>λx hx=>by cases hx
 | e::r,f,h=>by
  intro x hx;rw[kE]at hx;rcases List.mem_append.mp hx with z|z
  ·unfold Lq at z;split at z
   ·rw[List.mem_singleton.mp z];exact .inl (by simp)
   ·split at z
    ·cases z
    ·rcases List.mem_append.mp z with y|y
     ·exact .inr (h e (by simp) x (List.mem_of_mem_take y))
     ·exact .inr (h e (by simp) x (List.mem_of_mem_drop y))
  ·rcases QK sh r _ (λe he=>h e (nI _ he)) x z with y|y
   ·exact .inl (nI _ y)
   ·exact .inr y
theorem A9(sh:Int->List Int):∀ (xs:List Int),(∀ x∈xs,0<=x)->aU sh xs=xs
 | [],_=>rfl
 | x::xs,h=>by rw[bX,sW sh (h x (by simp)),A9 sh xs λy hy=>h y (nI _ hy)];rfl
theorem LC(sh:Int->List Int){a b:Int}(ab:a<=b):∀ (es:List Int) (f:Int),(∀ e∈es,∀ x∈aX sh e,0<=x)->↑(aU sh (kE sh a b f es))<=↑(aU sh es)
 | [],_,_=>by simp[kE]
 | e::r,f,h=>by
  rw[kE,jL,bX,cT,cT];have ih:=LC sh ab r (f+↑(aX sh e)) (λe he=>h e (nI _ he))
  have one:↑(aU sh (Lq sh a b f e))<=↑(aX sh e):=by
   unfold Lq;split
   ·rw[bX];simp[aU]
   ·split
    ·simp[aU]
    ·rename_i c1 c2;have h1:=h e (by simp);rw[jL,A9 sh _ λx hx=>h1 x (List.mem_of_mem_take hx),A9 sh _ λx hx=>h1 x (List.mem_of_mem_drop hx),cT,gr,qH];lia
  lia
theorem VL(sh:Int->List Int){a b:Int}(ab:a<b):∀ (es:List Int) (f:Int),f<=a->a<f+↑(aU sh es)->tE sh a b f es≠[]
 | [],f,h,g=>by simp[aU]at g;lia
 | e::r,f,h,g=>by
  rw[bX,cT]at g;rw[tE];intro z;let⟨z1,z2⟩:=List.append_eq_nil_iff.mp z;by_cases c1:f+↑(aX sh e)<=a
  ·exact VL sh ab r (f+↑(aX sh e)) c1 ∅ z2
  ·unfold NS at z1;rw[if_neg (λy=>y.elim c1 ∅)]at z1;split at z1
   ·cases z1
   ·rename_i c2;have q:=congrArg List.length z1;rw[qH,gr,lM]at q;lia
theorem G7{sh sg:Int->List Int}(p:Int):∀ (es:List Int) (f:Int),(∀ e∈es,aX sh e=aX sg e)->aE sh p f es=aE sg p f es
 | [],_,_=>rfl
 | e::r,f,h=>by rw[aE,aE,h e (by simp),G7 p r _ λx hx=>h x (nI _ hx)]
theorem G8{sh sg:Int->List Int}(p:Int):∀ (es:List Int) (f:Int),(∀ e∈es,aX sh e=aX sg e)->bE sh p f es=bE sg p f es
 | [],_,_=>rfl
 | e::r,f,h=>by rw[bE,bE,h e (by simp),G8 p r _ λx hx=>h x (nI _ hx)]
theorem G9{sh sg:Int->List Int}:∀ (es:List Int),(∀ y∈dM es,↑(sg y)<=↑(sh y))->↑(aU sg es)<=↑(aU sh es)
 | [],_=>by simp[aU]
 | e::r,h=>by
  rw[bX,bX,cT,cT]
  have ih:=G9 (sh:=sh) (sg:=sg) r λy hy=>h y (by
   let⟨a,b⟩:=cD.mp hy
   exact cD.mpr ⟨a,nI _ b⟩)
  have one:↑(aX sg e)<=↑(aX sh e):=by
   unfold aX;by_cases c:e<0
   ·rw[if_pos c,if_pos c];exact h _ (cD.mpr ⟨by lia,by rw[show -1-(-1-e)=e by lia];simp⟩)
   ·rw[if_neg c,if_neg c];exact fK _
  lia
structure acq(rows:cJ)(sh:Int->List Int)(rk:Int->Nat)(s a b:Int)(es:List Int)(rs:cJ)(sg:Int->List Int):Prop where
 snd:gf rs
 nx:∀ x y,gO rs x y->gO rows x y
 PJ:kF rs sg
 bd:∀ x:Int,0<=x->x<↑rs->↑(sg x)<=10000
 eq:∀ n,rk n<rk s->0<=n->n<↑rows->sg n=sh n
def QL{rows:cJ}{sh:Int->List Int}{rk:Int->Nat}{s a b:Int}{es:List Int}(pC:gf rows)(hrb:∀ x,rk x<=40)(U6:∀ x y,gO rows x y->rk y<rk x)(yz:kF rows sh)(E7:∀ x:Int,0<=x->x<↑rows->↑(sh x)<=10000)(h0:0<=s)(h1:s<↑rows)(he:rows[s.toNat]?=⇑es)(ab:a<=b):∃ sg,acq rows sh rk s a b es (rows.set s.toNat (bR sh a b es)) sg:=by
 have hnn:=oZ pC ⟨rk,hrb,U6⟩ yz
 have ent:∀ e∈es,∀ x∈aX sh e,0<=x:=λe hm x hx=>by
  unfold aX at hx;by_cases c:e<0
  ·rw[if_pos c]at hx;have nx:gO rows s (-1-e):=⟨h0,es,he,cD.mpr ⟨by lia,by rw[show -1-(-1-e)=e by lia];exact hm⟩⟩;let⟨p,q⟩:=pC.Bp nx;exact hnn _ p q x hx
  ·rw[if_neg c]at hx;rw[List.mem_singleton.mp hx];lia
 have win:∀ y∈dM (bR sh a b es),y∈dM es:=λy hy=>by
  let⟨y0,hm⟩:=cD.mp hy;refine cD.mpr ⟨y0,?_⟩;unfold bR at hm;split at hm
  ·exact hm
  ·rcases QK sh es 0 ent _ hm with z|z
   ·exact z
   ·lia
 have nx:∀ x y,gO (rows.set s.toNat (bR sh a b es)) x y->gO rows x y:=by
  rintro x y ⟨x0,tV,hx,hy⟩;by_cases c:x.toNat=s.toNat
  ·rw[c,List.getElem?_set,if_pos rfl]at hx;split at hx
   ·cases hx;exact⟨x0,es,by rw[c];exact he,win y hy⟩
   ·cases hx
  ·rw[List.getElem?_set_ne (λz=>c z.symm)]at hx;exact⟨x0,tV,hx,hy⟩
 have snd:gf (rows.set s.toNat (bR sh a b es)):=λtV hm y hy=>by
  rw[List.length_set];rcases List.mem_or_eq_of_mem_set hm with z|z
  ·exact pC tV z y hy
  ·subst z;exact pC es (nJ he) y (win y hy)
 let⟨sg,hsg⟩:=A6 (rows:=rows.set s.toNat (bR sh a b es)) ⟨rk,hrb,λx y h=>U6 x y (nx x y h)⟩
 have Ux:(rows.set s.toNat (bR sh a b es))[s.toNat]?=⇑(bR sh a b es):=by
  rw[List.getElem?_set,if_pos rfl,if_pos ∅]
 have key:∀ (k:Nat) (x:Int),rk x<k->0<=x->x<↑rows->(rk x<rk s->sg x=sh x)/\↑(sg x)<=↑(sh x):=by
  intro k
  induction k with
  | zero=>intro x h;lia
  | succ k ih =>
   intro x hx x0 x1;by_cases c:x.toNat=s.toNat
   ·have xs:x=s:=by lia
    subst xs;refine⟨λz=>by lia,?_⟩;have e1:=hsg x _ x0 Ux
    have e2:aU sg (bR sh a b es)=aU sh (bR sh a b es):=nG λy hy=>by
     have n:=U6 x y ⟨x0,es,he,win y hy⟩;let⟨p,q⟩:=pC.Bp ⟨x0,es,he,win y hy⟩;exact (ih y ∅ p q).1 n
    rw[e1,e2,yz x es x0 he];unfold bR;split
    ·exact fK _
    ·exact LC sh ab es 0 ent
   ·have hx1:rows[x.toNat]?=⇑rows[x.toNat]:=tK ∅;have e1:=hsg x _ x0 (by rw[List.getElem?_set_ne (λz=>c z.symm)];exact hx1);have e2:=yz x _ x0 hx1
    have low:∀ y∈dM rows[x.toNat],rk y<rk x/\0<=y/\y<↑rows:=λy hy=>by
     have n:gO rows x y:=⟨x0,_,hx1,hy⟩;exact⟨U6 x y n,pC.Bp n⟩
    refine⟨λz=>?_,?_⟩
    ·rw[e1,e2];exact nG λy hy=>(ih y (by have:=(low y hy).1;lia) (low y hy).2.1 (low y hy).2.2).1 (by have:=(low y hy).1;lia)
    ·rw[e1,e2];exact G9 _ λy hy=>(ih y (by have:=(low y hy).1;lia) (low y hy).2.1 (low y hy).2.2).2
 refine⟨sg,snd,nx,hsg,λx x0 x1=>?_,λn h n0 n1=>(key (rk n+1) n (Nat.lt_succ_self _) n0 n1).1 h⟩;rw[List.length_set]at x1;have:=(key (rk x+1) x (Nat.lt_succ_self _) x0 x1).2;have:=E7 x x0 x1;lia
def Uy{rows:cJ}{sh sg:Int->List Int}{rk:Int->Nat}{s a b to:Int}{es:List Int}(pC:gf rows)(hrb:∀ x,rk x<=40)(U6:∀ x y,gO rows x y->rk y<rk x)(yz:kF rows sh)(h0:0<=s)(he:rows[s.toNat]?=⇑es)(a0:0<=a)(ab:a<=b)(bn:b<=↑(sh s))(R:acq rows sh rk s a b es (rows.set s.toNat (bR sh a b es)) sg)(hk:(rows.set s.toNat (bR sh a b es))[s.toNat]?=⇑(bR sh a b es)):fH sg to (bR sh a b es) (iA sh a b es)=lS sh a b to es:=by
 unfold lS;by_cases c:a=b
 ·have e1:iA sh a b es=[]:=by unfold iA;rw[if_pos c]
  have e2:bR sh a b es=es:=by unfold bR;rw[if_pos c]
  rw[if_pos c,e1,e2];rfl
 ·rw[if_neg c];have e1:iA sh a b es=tE sh a b 0 es:=by unfold iA;rw[if_neg c]
  have e2:bR sh a b es=kE sh a b 0 es:=by unfold bR;rw[if_neg c]
  have ne:tE sh a b 0 es≠[]:=VL sh ∅ es 0 a0 (by rw[← yz s es h0 he];lia)
  have ag:∀ e∈bR sh a b es,aX sg e=aX sh e:=λe hm=>by
   unfold aX;by_cases d:e<0
   ·rw[if_pos d,if_pos d];have n:gO (rows.set s.toNat (bR sh a b es)) s (-1-e):=⟨h0,_,hk,cD.mpr ⟨by lia,by rw[show -1-(-1-e)=e by lia];exact hm⟩⟩;have n':=R.nx _ _ n;let⟨p,q⟩:=pC.Bp n';exact R.eq _ (U6 _ _ n') p q
   ·rw[if_neg d,if_neg d]
  unfold fH;rw[e1,if_neg ne,G7 to _ 0 ag,G8 to _ 0 ag,e2]
def Nt{X:Cx}(hc:X.calm=true):jA X (.builtin "max") (λxs H Q=>∃ (p:Addr) (ns:List Int),xs=[↥p]/\bG X.K H p (ns.map V.int)/\0<↑ns/\∀ M,M∈ns->(∀ a∈ns,a<=M)->Q (.int M) H):=by
 intro ao s σ H xs us Q I r h;let⟨p,ns,rfl,hq,ne,q⟩:=h;let⟨u,rfl,rx⟩:=r.one;cases (show u=Value.ref p from rx);let⟨aP,rv,pl,hz⟩:=I.list hq;have hi:PyProof.Rows.IntsAre aP ns:=intsAre_of rv;let⟨xs,e⟩:=hi.allInts.items;have hl:=pl.isList
 have NI:ns=xs.toList.map (·.1):=by
  rw[← hi.numsOf,← PySem.nums_intItems,← e]
 have hsz:0<xs.size:=by
  have h3:=ne;rw[NI,cB,Array.length_toList]at h3;exact h3
 rw[e]at hl;refine PySem.max_intList (I.ok.hd hc) hl hsz λv h' tk hv hk=>?_;let⟨t,rfl⟩:=PySem.intItems_at hv;let⟨h1,h2⟩:=PySem.argBest_gt (PySem.numAt xs) (xs.size-1);refine⟨.int _,H,I.kept hk,⟨t,rfl⟩,q _ ?_ λa ha=>?_⟩
 ·rw[NI,PySem.numAt_eq];exact PySem.getD_mem (by rw[cB,Array.length_toList];lia)
 ·rw[NI]at ha;let⟨j,hj,rfl⟩:=PySem.mem_getD ha;rw[cB,Array.length_toList]at hj;rw[← PySem.numAt_eq];exact h2 j ∅
class inductive QM
 | mk (av:Addr->Prop) (r:Addr) (rows:cJ) (s:Int) (_:vs=[↥r,.int s]) (_:iu av H r rows) (_:↑rows<=40) (_:∀ es∈rows,↑es<=100000) (_:gf rows) (_:0<=s) (_:s<↑rows) (_:¬ Reach (gO rows) s s->∀ x,¬ Reach (gO rows) x x) (_:∀ (b:Bool) (H':Hp),aI H H'->(b=true->Bq rows/\∃ f,Weighs rows f/\∀ x:Int,0<=x->x<↑rows->f x<=200)->Q (.bl b) H')
theorem Hf:aF ["_law_rows","_law_sheet"] ["_law_rows","_law_sheet"] (az pY):=eO
theorem Hg:‹(43,96,["_law_rows","_law_sheet"],QM)›:=λD=>by
 refine eS D.abt.F Hf λcU A zn s0 H vs Q E hr h=>?_;let⟨av,r,rows,s,rfl,R,ln,he,sd,s0,s1,rg,k⟩:=h;refine⟨_,(aj (bO (aV Cs (pv 1) (aH D.XA (rY D) hr (aa (pv 0) (aa (pv 1) ah))) rfl) (au (aJ ng)) br) (au (aJ (lN fY (bY (Nt rfl) rfl D.T.Ax PyProof.Rows.boot_max (aa (gI (N:=["_law_other","_law_rows"]) (jI (sc:=az pY) (NX:=["_law_rows","_law_sheet"]) (jx:=[none,some 0]) rfl rfl rfl nofun nofun rfl nofun rfl nofun) rfl (iF rfl D.T.jb (aa (gp D.T.gg (pv 0)) ah)) (λ_ _ _ _ _ _=>(bQ (i:=0) (show List.Nodup (["_law_other","_law_rows"]:List Str) by decide +kernel))) (λ_ _ _ _ _ _=>fZ) (λ_ _ _ _ _ _=>(aH D.XE (rZ D 41) hr (aa (pv 1) (aa (pv 0) ah))))) ah)) ay (bh _))))),?_⟩;refine⟨Y,Y,Y,av,r,rows,s,rfl,R,by lia,he,sd,s0,s1,λL o H1 ho sm iff=>?_⟩;exists o,Y,.inl (bG.of ho),rfl,sS L,Y;rw[zx];by_cases hm:s∈L
 ·rw[decide_eq_true hm];exact iX (k false H1 sm λz=>nomatch z)
 rw[decide_eq_false hm];refine eL ?_;have R1:=Yo sd ln (rg λz=>hm ((iff s).mpr z));let⟨f,hf⟩:=MS R1;let⟨rk,rb,dn⟩:=id R1;have Rs:=R.same sm;let⟨vs,hr1,al⟩:=id Rs;have lv:=al.len;have gN:∀ i:Nat,↑((List.range i).map λj:Nat=>f (j:Int))=i:=λi=>by rw[cB,List.length_range]
 refine⟨Y,r,Y,.inl (bG.of hr1),Y,by lia,by lia,λacc cP=>nB (lo:=0) (k:=((↑vs:Nat):Int).toNat) (λi σ H2=>∃ u:Option V,σ=[u,⇑↥r]/\H2 acc=⇑(.lst (((List.range i).map λj:Nat=>f (j:Int)).map V.int))/\aI H1 H2) ⟨none,rfl,af,ak cP _⟩ ?_ ?_⟩
 ·rintro i σ H2 hi ⟨u,rfl,ha,s2⟩;have il:i<↑rows:=by lia
  refine⟨Y,Y,av,r,rows,0+(i:Int),f,rk,rfl,Rs.same s2,by lia,sd,by lia,by lia,hf,dn,by have:=rb (0+(i:Int));lia,_,ha,(by rw[cB,gN];exact aQ ∅),Y,?_,bH cP s2 (aG acc _ _)⟩;rw[af,List.range_succ,gE,gE,Int.zero_add];rfl
 ·rintro σ H2 ⟨u,rfl,ha,s2⟩;refine⟨acc,Y,bG.of ha,by rw[gN];lia,λM _ hM=>⟨Z,?_⟩⟩;refine k _ H2 (sm.trans s2) λz=>⟨R1,f,hf,λx x0 x1=>?_⟩;have y:=hM (f x) (List.mem_map.mpr ⟨x.toNat,List.mem_range.mpr ∅,by rw[show ((x.toNat:Nat):Int)=x by lia]⟩);have:=of_decide_eq_true z;lia
def cE{a b:Str}(h:a≠b){A B:Prop}(z:B):if decide (V.str a=V.str b)=true then A else B:=by
 rw[if_neg λy=>h (V.str.inj (of_decide_eq_true y))];exact z
def jc{a:Str}{A B:Prop}(z:A):if decide (V.str a=V.str a)=true then A else B:=by
 rw[if_pos (decide_eq_true rfl)];exact z
def Nn.at_{W:Addr->Prop}{H:Hp}{a:Addr}{rows:cJ}(h:Nn W ik ps H a rows):iu (λ_=>False) H a rows:=by
 let⟨_,_,_,vs,hv,al⟩:=h;exact⟨vs,hv,al.mono λv es ⟨b,e,Q,hb⟩=>⟨b,e,λz=>z,hb⟩⟩
def jP{rows:cJ}{s:Int}(h:qM ↑rows s):rows[s.toNat]?=⇑(own rows s):=by
 have:s.toNat<↑rows:=by have:=h.1;have:=h.2;lia
 unfold own;rw[tK this];rfl
class inductive LF
 | mk (W:Addr->Prop) (w d:Addr) (aK:gD) (pq:gS) (rows:cJ) (n:Nat) (sh:Int->List Int) (dd:LD) (_:vs=[↥w,↥d]) (_:Wo W H w aK pq rows) (_:dd.At H d) (_:Gd n rows sh) (_:dd.Ok n ↑rows sh) (_:n<=10000) (_:∀ (o:Addr) (H':Hp),H' o=⇑(.lst ((dd.res sh rows).map V.int))->↑(dd.res sh rows)<=100000->aI H H'->H o=none->Q ↥o H')
theorem jQ:aF ["_law_world_here","_law_deed_here","_law_rows","_law_name","_law_kept","_law_taken"] ["_law_world_here","_law_deed_here"] (az rB):=eO
theorem EG:‹(45,97,["_law_world_here","_law_deed_here"],LF)›:=λD=>by
 have tH:bq P w K mg zt cO 44 _ _ zl9 (JU 41):=JV D;have Dp:bq P w K mg zt cO 44 _ _ Ze (QF 41):=JW D;refine eS D.abu.F jQ λcU A zn s0 H vs Q E hr h=>?_;let⟨W,w,d,aK,pq,rows,n,sh,dd,rfl,wo,hd,g,ok,n10,k⟩:=h;have hu:=gT hr;exists _,(aj (aZ (i:=2) jQ.nd (kq hu (pv 0) bI)) (aj (aZ (i:=3) jQ.nd (aO aW (pv 1) ay)) (aj (bO (aV dY (pv 3) bI (bh _)) (au (aJ (aH D.Pj tH hr (aa (pv 2) (aa (aO aW (pv 1) ay) (aa (aO aW (pv 1) ay) (aa (aH D.abq (EB D) hr (aa (aO aW (pv 1) ay) ah)) ah))))))) br) (aj (bO (aV dY (pv 3) bI (bh _)) (au (aJ (aO aW (aH D.XD Dp hr (aa (pv 2) (aa (aO aW (pv 1) ay) (aa (aO aW (pv 1) ay) (aa (aO aW (pv 1) ay) ah))))) ay))) br) (aj (bO (aV dY (pv 3) bI (bh _)) (aj (mj (aH D.XD Dp hr (aa (pv 2) (aa (aO aW (pv 1) ay) (aa (aO aW (pv 1) ay) (aa (aO aW (pv 1) ay) ah))))) (kQ (n:=2) rfl (bP (bQ (i:=4) jQ.nd) (bP (bQ (i:=5) jQ.nd) fX)))) (au (aJ (aH D.Pj tH hr (aa (aH D.Xz (yM D) hr (aa (pv 2) (aa (aO aW (pv 1) ay) (aa (pv 4) ah)))) (aa (aO aW (pv 1) ay) (aa (aO aW (pv 1) ay) (aa (pv 5) ah)))))))) br) (aj (bO (aV dY (pv 3) bI (bh _)) (au (aJ (aH D.Pj tH hr (aa (pv 2) (aa (aO aW (pv 1) ay) (aa (aO aW (pv 1) ay) (aa (gZ lP (aH D.Js (ju D 41) hr (aa (pv 2) (aa (aO aW (pv 1) ay) ah))) (iG (aO aW (pv 1) ay)) (iG (aO aW (pv 1) ay))) ah))))))) br) (aj (bO (aV dY (pv 3) bI (bh _)) (au (aJ (aH D.Pj tH hr (aa (pv 2) (aa (aO aW (pv 1) ay) (aa (aO aW (pv 1) ay) (aa (bL (aa (bz cY (gv d7 ay) (aO aW (pv 1) ay)) ah)) ah))))))) br) (aj (bO (aV dY (pv 3) bI (bh _)) (au (aJ (aH D.Js (ju D 41) hr (aa (pv 2) (aa (aO aW (pv 1) ay) ah))))) br) (au (aJ (aO bu (aO bu (kq hu (pv 0) bI) (aO aW (pv 1) ay)) (aO aW (pv 1) ay))))))))))));let⟨ik,iW,ps,vl,wu⟩:=id wo;have zr:=jj.k (k:=kR) wu.hw;rw[show cL (qR ik iW ps vl) kR=⇑↥iW by kernel_rfl]at zr;have R:=wu.hr.at_;let⟨rk,rb,dn⟩:=g.sn.rk;have l40:=g.ln;have lr:↑rows<=1000:=by lia
 have rb':∀ s,rk s<=41:=λs=>by have:=rb s;lia
 have e25:∀ es∈rows,↑es<=25000:=λes he=>by have:=g.es es he;lia
 exists Y,w,Y,zr
 have iS:∀ {s p:Int} {new:List Int} {q o:Addr} {H1:Hp} {Q:VK} {E:XK},qM ↑rows s->iu (λ_=>False) H1 q rows->H1 o=⇑(.lst (new.map V.int))->↑new<=25000->aI H H1->(∀ (o:Addr) (H':Hp),H' o=⇑(.lst ((fH sh p (own rows s) new).map V.int))->↑(fH sh p (own rows s) new)<=100000->aI H H'->H o=none->Q ↥o H')->JU 41 [↥q,.int s,.int p,↥o] H1 Q E:=by
  intro s p new q o H1 Q E is R1 ho ln s1 k1;refine⟨_,q,o,rows,s,p,new,sh,rk,rfl,R1,lr,e25,g.sn.sd,g.sn.ss,g.sn.ln,dn,is.1,is.2,rb' s,ho,ln,λes o2 H2 o7 h2 l2 s2 f2=>?_⟩;rw[jP is]at o7;cases o7;exact k1 o2 H2 h2 l2 (s1.trans s2) (aR s1 f2)
 cases dd with
 | put s p r row =>
  let⟨hd,Jp⟩:=hd;let⟨is,ip,l2,hq⟩:=ok;exists Y,d,Q,K,cW.of hd,om;refine⟨Y,rfl,Y,jc ?_⟩;have bd:=G1 (k:=40) (row:=row) λq h=>by have:=hq q h;lia
  refine⟨Y,Y,d,Q,K,cW.of hd,rH,Y,d,Q,K,cW.of hd,Aw,Y,d,Q,K,cW.of hd,BC,r,row,rfl,Jp,λq h=>by have:=hq q h;lia,by lia,by lia,λo1 H1 h1 s1 f1=>?_⟩;exact iS is (R.same s1) h1 ∅ s1 k
 | cut s a b =>
  let⟨is,i3⟩:=ok;exists Y,d,Q,K,cW.of hd,om;refine⟨Y,rfl,Y,cE nofun ⟨Y,rfl,Y,jc ?_⟩⟩;refine⟨Y,Y,d,Q,K,cW.of hd,rH,Y,d,Q,K,cW.of hd,Aw,Y,d,Q,K,cW.of hd,BC,_,iW,rows,s,a,b,sh,rk,rfl,R,lr,(λes he=>by have:=g.es es he;lia),g.sn.sd,g.sn.ss,g.sn.ln,dn,is.1,is.2,rb' s,i3.2.1,λes tu L M H1 o7 ht hL hM s1 fL fM nLM=>?_⟩;rw[jP is]at o7;cases o7;refine⟨tu,Q,K,cW.of ht,om,k L H1 hL ?_ s1 fL⟩;have cl:=vm sh a b (own rows s);have ls:=g.sl s is.1 is.2;rw[g.sn.ss s _ is.1 (jP is)]at ls;have:=g.es _ (nJ (jP is));show ↑(bR sh a b (own rows s))<=_;lia
 | Uw s a b t =>
  let⟨is,mv⟩:=ok;have i3:=mv.1;have lo:=g.es _ (nJ (jP is));have e:=g.sn.ss s _ is.1 (jP is);have ls:=g.sl s is.1 is.2;rw[e]at ls;have cl:=vm sh a b (own rows s);have tl:=A8 sh a b (own rows s);exists Y,d,Q,K,cW.of hd,om;refine⟨Y,rfl,Y,cE nofun ⟨Y,rfl,Y,cE nofun ⟨Y,rfl,Y,jc ?_⟩⟩⟩;refine⟨Y,Y,d,Q,K,cW.of hd,rH,Y,d,Q,K,cW.of hd,Aw,Y,d,Q,K,cW.of hd,BC,_,iW,rows,s,a,b,sh,rk,rfl,R,lr,(λes he=>by have:=g.es es he;lia),g.sn.sd,g.sn.ss,g.sn.ln,dn,is.1,is.2,rb' s,i3.2.1,λes tu L M H1 o7 ht hL hM s1 fL fM nLM=>?_⟩;rw[jP is]at o7;cases o7;let⟨vs,hr1,al⟩:=R.same s1;have lv:=al.len;have is1:=is.1;have is2:=is.2;have F3:=s1 _ _ hd;exists tu,Y,cW.of ht,rfl,E,rfl,Z;refine⟨Y,Y,d,Q,K,cW.of F3,rH,Y,iW,L,s.toNat,vs,(by rw[show ((s.toNat:Nat):Int)=s by lia];rfl),hr1,by lia,by lia,λq H2 hq s2 fq=>?_⟩;have hd2:=s2 _ _ F3;let⟨sg,RR⟩:=QL (a:=a) (b:=b) g.sn.sd rb dn g.sn.ss g.sn.ln is.1 is.2 (jP is) i3.2.1
  have Ux:(rows.set s.toNat (bR sh a b (own rows s)))[s.toNat]?=⇑(bR sh a b (own rows s)):=by
   rw[List.getElem?_set,if_pos rfl,if_pos ∅]
  have R2:iu (λ_=>False) H2 q (rows.set s.toNat (bR sh a b (own rows s))):=⟨_,hq,cj.set _ (al.mono λv es z=>fF.same s2 z) ⟨L,rfl,λz=>z,s2 _ _ hL⟩⟩
  refine⟨Y,d,Q,K,cW.of hd2,rH,Y,d,Q,K,cW.of hd2,SR,Y,_,q,M,_,s,t,iA sh a b (own rows s),sg,rk,rfl,R2,by rw[List.length_set];lia,(λtV hm=>by
   rcases List.mem_or_eq_of_mem_set hm with z|z
   ·exact e25 tV z
   ·rw[z];lia),RR.snd,RR.PJ,RR.bd,(λx y h=>dn x y (RR.nx x y h)),is.1,by rw[List.length_set];exact is.2,rb' s,s2 _ _ hM,by lia,λtV o H3 CK h3 l3 s3 f3=>?_⟩
  rw[Ux]at CK;cases CK;rw[Uy g.sn.sd rb dn g.sn.ss is.1 (jP is) i3.1 i3.2.1 i3.2.2 RR Ux]at h3 l3;exact k o H3 h3 l3 (s1.trans (s2.trans s3)) (aR (s1.trans s2) f3)
 | VJ t p s a b =>
  let⟨it,ip,is,i3⟩:=ok;exists Y,d,Q,K,cW.of hd,om;refine⟨Y,rfl,Y,cE nofun ⟨Y,rfl,Y,cE nofun ⟨Y,rfl,Y,cE nofun ⟨Y,rfl,Y,jc ?_⟩⟩⟩⟩;have ls:=g.sl s is.1 is.2;refine⟨Y,Y,d,Q,K,cW.of hd,rH,Y,d,Q,K,cW.of hd,Aw,Y,Y,d,Q,K,cW.of hd,BC,_,iW,rows,s,sh,rk,rfl,R,lr,g.sn.sd,is.1,is.2,g.sn.ss,g.sn.ln,dn,by have:=rb s;lia,λo1 H1 h1 s1 f1=>?_⟩;have F3:=s1 _ _ hd;refine⟨Y,d,Q,K,cW.of F3,SR,Y,Y,d,Q,K,cW.of F3,aay,Y,o1,Y,bG.of h1,λq hq=>?_⟩;have s2:=ak hq (.lst (ki ((sh s).map V.int) (⇑a) (⇑b)));have h2:(aN H1 q (.lst (ki ((sh s).map V.int) (⇑a) (⇑b)))) q=⇑(.lst ((((sh s).take b.toNat).drop a.toNat).map V.int)):=by rw[af,GJ _ i3.1 (by have:=i3.1;have:=i3.2.1;lia),List.map_drop,List.map_take]
  generalize aN H1 q (.lst (ki ((sh s).map V.int) (⇑a) (⇑b)))=H2 at s2 h2;exact iS it (R.same (s1.trans s2)) h2 (by rw[qH,gr];lia) (s1.trans s2) k
 | win t p s =>
  let⟨it,ip,is⟩:=ok;exists Y,d,Q,K,cW.of hd,om;refine⟨Y,rfl,Y,cE nofun ⟨Y,rfl,Y,cE nofun ⟨Y,rfl,Y,cE nofun ⟨Y,rfl,Y,cE nofun ⟨Y,rfl,Y,jc ?_⟩⟩⟩⟩⟩;refine⟨Y,Y,d,Q,K,cW.of hd,rH,Y,d,Q,K,cW.of hd,Aw,Y,Y,d,Q,K,cW.of hd,BC,Z,ku,λq hq=>?_⟩;exact iS it (R.same (ak hq _)) af (by show 1<=25000;decide) (ak hq _) k
 | fix s =>
  exists Y,d,Q,K,cW.of hd,om;refine⟨Y,rfl,Y,cE nofun ⟨Y,rfl,Y,cE nofun ⟨Y,rfl,Y,cE nofun ⟨Y,rfl,Y,cE nofun ⟨Y,rfl,Y,cE nofun ⟨Y,rfl,Y,jc ?_⟩⟩⟩⟩⟩⟩;exact⟨Y,Y,d,Q,K,cW.of hd,rH,_,iW,rows,s,sh,rk,rfl,R,lr,g.sn.sd,ok.1,ok.2,g.sn.ss,g.sn.ln,dn,by have:=rb s;lia,λo1 H1 h1 s1 f1=>k o1 H1 h1 (by have:=g.sl s ok.1 ok.2;show ↑(sh s)<=_;lia) s1 f1⟩
theorem QN{n:Nat}{row:Row}(h:∀ z∈row,0<=z.1/\z.1<z.2/\z.2<=(n:Nat)):vh n row=true:=List.all_eq_true.mpr λq hq=>by
 have:=h q hq;unfold Ro;simp only[Bool.and_eq_true,decide_eq_true_eq];lia
def Uz:Sp:=λ_ _ _ _=>False
theorem QO{k:Nat}{f:Addr}{ps:List Str}:bq P w K mg zt cO k f fd ps Uz:=⟨λvs H Q E h=>h.elim,λA zn s H args us vs Q E _ _ _ _ h=>h.elim⟩
def acs{i:Int}(h0:0<=i)(h1:i<=20000):wN i:=by
 have a:(20000:Int)<10^60:=by decide
 exact⟨by lia,by lia⟩
class inductive QS(C CS CW CB:Addr)
 | mk (U:Addr->Prop) (x d:Addr) (pe:gS) (aB:gW) (aK:gD) (nW:Nat) (bV:Vl) (rows:cJ) (sh:Int->List Int) (dd:LD) (_:vs=[↥x,↥d]) (_:m7 C CS CW CB U H x pe aB aK nW bV) (_:pe.getLast?=⇑rows) (_:↑pe<=900) (_:↑aB<=900) (_:↑aK<=10000) (_:dd.At H d) (_:Gd ↑aK rows sh) (_:dd.Ok ↑aK ↑rows sh) (_:∃ f,nE (iM rows dd.sh.toNat (dd.res sh rows)) f) (_:∀ (U':Addr->Prop) (H':Hp) (dh:gW),↑dh=↑aB+1->m7 C CS CW CB U' H' x (pe++[iM rows dd.sh.toNat (dd.res sh rows)]) dh aK nW bV->AV U U' H H'->Q .fT H')
theorem yN:aF ["_law_house","_law_deed_here","_law_name"] ["_law_house","_law_deed_here"] (az uR):=eO
theorem Hh:‹(7,99,["_law_house","_law_deed_here"],(QS C CS CW CB))›:=λD=>by
 have BX:bq P w K mg zt cO 4 (aY 57) (bf 57) ["self","hand","text"] Uz:=QO;have Ba:bq P w K mg zt cO 4 (aY 54) (bf 54) ["self"] Uz:=QO;have BY:bq P w K mg zt cO 4 (aY 98) (bf 98) ["self","sheet","moment"] Uz:=QO;refine eS D.abv.F yN λcU A zn s0 H vs Q E hr h=>?_;let⟨U,x,d,pe,aB,aK,nW,bV,rows,sh,dd,rfl,LB,hl,l2,l3,l4,hd,g,ok,B,k⟩:=h;exists _,(aj (aZ (i:=2) yN.nd (aO aW (pv 1) ay)) (aj (bO (aV dY (pv 2) bI (bh _)) (au (aJ (cA (pv 0) D.aM D.Td BX hr bC (aa (aO aW (pv 1) ay) (aa (aO aW (pv 1) ay) ah))))) br) (aj (bO (aV dY (pv 2) bI (bh _)) (au (aJ (fc (pv 0) D.aM D.Xv Ba hr bC))) br) (aj (bO (aV dY (pv 2) bI (bh _)) (au (aJ (cA (pv 0) D.aM D.aa2 (AX D) hr bC (aa (aO aW (pv 1) ay) (aa (aO aW (pv 1) ay) (aa (d9 eX rfl D.T.iR tL (aa (aO aW (pv 1) ay) ah)) ah)))))) br) (aj (bO (aV dY (pv 2) bI (bh _)) (au (aJ (cA (pv 0) D.aM D.aa3 (AY D) hr bC (aa (aO aW (pv 1) ay) (aa (aO aW (pv 1) ay) (aa (aO aW (pv 1) ay) ah)))))) br) (aj (bO (aV dY (pv 2) bI (bh _)) (au (aJ (cA (pv 0) D.aM D.aa8 (zb D) hr bC (aa (aO aW (pv 1) ay) (aa (aO aW (pv 1) ay) (aa (aO aW (pv 1) ay) (aa (aO aW (pv 1) ay) ah))))))) br) (aj (bO (aV dY (pv 2) bI (bh _)) (au (aJ (cA (pv 0) D.aM D.aa4 (yf D) hr bC (aa (aO aW (pv 1) ay) (aa (aO aW (pv 1) ay) (aa (aO aW (pv 1) ay) (aa (aO aW (pv 1) ay) (aa (aO aW (pv 1) ay) ah)))))))) br) (aj (bO (aV dY (pv 2) bI (bh _)) (au (aJ (cA (pv 0) D.aM D.aa6 (wD D) hr bC (aa (aO aW (pv 1) ay) (aa (aO aW (pv 1) ay) (aa (aO aW (pv 1) ay) ah)))))) br) (aj (bO (aV dY (pv 2) bI (bh _)) (au (aJ (cA (pv 0) D.aM D.aa7 (A0 D) hr bC (aa (aO aW (pv 1) ay) ah)))) br) (au (aJ (cA (pv 0) D.aM D.afd BY hr bC (aa (aO aW (pv 1) ay) (aa (aO aW (pv 1) ay) ah))))))))))))));have l40:=g.ln;have l1:↑rows<=50:=by lia
 have sn:=g.sn;have one:∀ {l:List Nat},↑(aB++[l])=↑aB+1:=λ{l}=>by rw[cT];rfl
 have iS:∀ {s:Int},qM ↑rows s->wN s:=λz=>acs z.1 (by have:=z.2;lia);have Yr:∀ {s p:Int},qM ↑rows s->0<=p->p<=↑(sh s)->wN p:=λz p0 p1=>acs p0 (by have:=g.sl _ z.1 z.2;lia);let⟨S',Yd,d',YS,sh',bl',GX,JS,bk',dS',DA,HS,dw',sg',ow',pw',db',tb',JM,LU⟩:=id LB;have hx:=LU.L.hx
 cases dd with
 | put s p r row =>
  let⟨hd,Jp⟩:=hd;let⟨is,ip,r2,hq⟩:=ok;have hh:=QN (n:=↑aK) (row:=row) λz h=>by have:=hq z h;exact⟨this.1,this.2.1,this.2.2.1⟩
  let⟨as,ha,pa⟩:=id Jp;exists Y,d,Q,K,cW.of hd,om;refine⟨Y,rfl,Y,cE nofun ⟨Y,rfl,Y,cE nofun ⟨Y,rfl,Y,jc ?_⟩⟩⟩;refine⟨Y,x,d',Y,hx,rfl,Y,d,Q,K,cW.of hd,rH,Y,d,Q,K,cW.of hd,Aw,Y,d,Q,K,cW.of hd,BC,r,Y,.inl (bG.of ha),λq Wq=>?_⟩;have s1:=ak Wq (.lst (as.map V.ref));have Rm:bW (aN H q (.lst (as.map V.ref))) q row:=⟨as,af,pa.same s1⟩;generalize aN H q (.lst (as.map V.ref))=H1 at s1 Rm;refine⟨U,x,q,pe,aB,aK,nW,bV,row,s,p,rows,rfl,LB.same s1,Rm,⟨by lia,λz h=>by have:=hq z h;exact⟨⟨by lia,by lia⟩,⟨by lia,by lia⟩⟩⟩,by lia,hl,l1,l2,l3,iS is,Yr is ip.1 ip.2,is,hh,⟨sh,sn,ip,λes o7=>?_⟩⟩;rw[jP is]at o7;cases o7
  have ee:dF (cQ (cy row))=bK row:=by
   rw[oY,nA _ λq h=>by have:=hq q h;lia]
  rw[ee];exact⟨B,λU' H' L' fr=>k U' H' _ one L' (fr.pre s1)⟩
 | cut s a b =>
  let⟨is,i3⟩:=ok;exists Y,d,Q,K,cW.of hd,om;refine⟨Y,rfl,Y,cE nofun ⟨Y,rfl,Y,cE nofun ⟨Y,rfl,Y,cE nofun ⟨Y,rfl,Y,jc ?_⟩⟩⟩⟩;refine⟨Y,x,d',Y,hx,rfl,Y,d,Q,K,cW.of hd,rH,Y,d,Q,K,cW.of hd,Aw,Y,d,Q,K,cW.of hd,BC,U,x,pe,aB,aK,nW,bV,s,a,b,rows,rfl,LB,hl,l1,l2,l3,iS is,Yr is i3.1 (by have:=i3.2.1;have:=i3.2.2;lia),Yr is (by have:=i3.2.1;have:=i3.1;lia) i3.2.2,is,⟨sh,sn,i3,λes o7=>?_⟩⟩;rw[jP is]at o7;cases o7;exact⟨B,λU' H' L' fr=>k U' H' _ one L' fr⟩
 | Uw s a b t =>
  let⟨is,mv⟩:=ok;have i3:=mv.1;have i1:=i3.1;have i2:=i3.2.1;have i4:=i3.2.2;have i5:=mv.2;have sl:=g.sl s is.1 is.2;exists Y,d,Q,K,cW.of hd,om;refine⟨Y,rfl,Y,cE nofun ⟨Y,rfl,Y,cE nofun ⟨Y,rfl,Y,cE nofun ⟨Y,rfl,Y,cE nofun ⟨Y,rfl,Y,jc ?_⟩⟩⟩⟩⟩;refine⟨Y,x,d',Y,hx,rfl,Y,d,Q,K,cW.of hd,rH,Y,d,Q,K,cW.of hd,Aw,Y,d,Q,K,cW.of hd,BC,Y,d,Q,K,cW.of hd,SR,U,x,pe,aB,aK,nW,bV,s,a,b,t,rows,rfl,LB,hl,l1,l2,l3,iS is,⟨by lia,by lia⟩,⟨by lia,by lia⟩,⟨by lia,by lia⟩,is,⟨sh,sn,mv,λes o7=>?_⟩⟩;rw[jP is]at o7;cases o7;exact⟨B,λU' H' L' fr=>k U' H' _ one L' fr⟩
 | VJ t p s a b =>
  let⟨it,ip,is,i3⟩:=ok;exists Y,d,Q,K,cW.of hd,om;refine⟨Y,rfl,Y,cE nofun ⟨Y,rfl,Y,cE nofun ⟨Y,rfl,Y,cE nofun ⟨Y,rfl,Y,cE nofun ⟨Y,rfl,Y,cE nofun ⟨Y,rfl,Y,jc ?_⟩⟩⟩⟩⟩⟩;refine⟨Y,x,d',Y,hx,rfl,Y,d,Q,K,cW.of hd,rH,Y,d,Q,K,cW.of hd,Aw,Y,d,Q,K,cW.of hd,BC,Y,d,Q,K,cW.of hd,SR,Y,d,Q,K,cW.of hd,aay,U,x,pe,aB,aK,nW,bV,t,p,s,a,b,rows,rfl,LB,hl,l1,l2,l3,iS it,Yr it ip.1 ip.2,iS is,Yr is i3.1 (by have:=i3.2.1;have:=i3.2.2;lia),Yr is (by have:=i3.2.1;have:=i3.1;lia) i3.2.2,it,is,⟨sh,sn,i3,⟨ip,λes o7=>?_⟩⟩⟩;rw[jP it]at o7;cases o7;exact⟨B,λU' H' L' fr=>k U' H' _ one L' fr⟩
 | win t p s =>
  let⟨it,ip,is⟩:=ok;exists Y,d,Q,K,cW.of hd,om;refine⟨Y,rfl,Y,cE nofun ⟨Y,rfl,Y,cE nofun ⟨Y,rfl,Y,cE nofun ⟨Y,rfl,Y,cE nofun ⟨Y,rfl,Y,cE nofun ⟨Y,rfl,Y,cE nofun ⟨Y,rfl,Y,jc ?_⟩⟩⟩⟩⟩⟩⟩;refine⟨Y,x,d',Y,hx,rfl,Y,d,Q,K,cW.of hd,rH,Y,d,Q,K,cW.of hd,Aw,Y,d,Q,K,cW.of hd,BC,U,x,pe,aB,aK,nW,bV,t,p,s,rows,rfl,LB,hl,l1,l2,l3,iS it,Yr it ip.1 ip.2,iS is,it,is,⟨sh,sn,ip,λes o7=>?_⟩⟩;rw[jP it]at o7;cases o7;exact⟨B,λU' H' L' fr=>k U' H' _ one L' fr⟩
 | fix s =>
  exists Y,d,Q,K,cW.of hd,om;refine⟨Y,rfl,Y,cE nofun ⟨Y,rfl,Y,cE nofun ⟨Y,rfl,Y,cE nofun ⟨Y,rfl,Y,cE nofun ⟨Y,rfl,Y,cE nofun ⟨Y,rfl,Y,cE nofun ⟨Y,rfl,Y,cE nofun ⟨Y,rfl,Y,jc ?_⟩⟩⟩⟩⟩⟩⟩⟩;refine⟨Y,x,d',Y,hx,rfl,Y,d,Q,K,cW.of hd,rH,U,x,pe,aB,aK,nW,bV,s,rows,rfl,LB,hl,l1,l2,l3,iS ok,ok,⟨sh,sn,B,λU' H' L' fr=>k U' H' _ one L' fr⟩⟩
class inductive QT
 | mk (l c w:Addr) (W:Addr->Prop) (aK:gD) (pq:gS) (rq:cJ) (_:vs=[↥l,↥w]) (_:eU H l c) (_:Wo W H w aK pq rq) (_:(∀ a,W a->a≠l/\a≠c)) (_:↑aK<=50000) (_ :
 ∀ (r:Addr) (row:Row) (H':Hp),↑row<=2->bW H' r row->(∀ p∈row,0<=p.1/\p.1<p.2/\p.2<=↑aK/\p.2<=p.1+40)->H r=none->eU H' l c->cz l H H'->Q ↥r H')
theorem gA:aF ["_law_src_here","_law_world_here","_law_many","_law_row","_law_k","_law_start","_law_span"] ["_law_src_here","_law_world_here"] (az nZ):=eO
theorem Bb:‹(2,100,["_law_src_here","_law_world_here"],QT)›:=λD=>by
 have cI:bq P w K mg zt cO 1 _ _ Zd xC:=iy D;specialize eS D.Vd.F gA;let⟨l,c,w,W,aK,pq,rq,rfl,S,wo,dw,b1,k⟩:=h;have hu:=gT hr;exists _,(aj (aZ (i:=2) gA.nd (gp D.T.gg (kq hu (pv 1) bI))) (aj (aZ (i:=3) gA.nd (bL ah)) (aj (dX PassesOwn.never rfl (iF rfl D.T.jb (aa (bz Ir (aH D.C4 cI hr (aa (pv 0) (aa ay ah))) (bY (oG rfl) rfl D.T.Gb PyProof.Rows.boot_min (aa ay (aa (pv 2) ah)))) ah)) (bQ (i:=4) gA.nd) (aj (aZ (i:=5) gA.nd (aH D.C4 cI hr (aa (pv 0) (aa (bY (lX rfl) rfl D.T.Ax PyProof.Rows.boot_max (aa ay (aa (pv 2) ah))) ah)))) (aj (aZ (i:=6) gA.nd (bz dH ay (aH D.C4 cI hr (aa (pv 0) (aa (bY (lX rfl) rfl D.T.Ax PyProof.Rows.boot_max (aa ay (aa (bY (oG rfl) rfl D.T.Gb PyProof.Rows.boot_min (aa (aO bu (bL (aa ay (aa ay (aa ay (aa ay ah))))) (aH D.C4 cI hr (aa (pv 0) (aa ay ah)))) (aa (bz cY (pv 2) (pv 5)) ah))) ah))) ah))))) (au (aT (dQ qF jV jW bS (pv 3) (aa (cH (aa (pv 5) (aa (bz dH (pv 5) (pv 6)) ah))) ah))))))) (au (aJ (pv 3))))));let⟨ik,rw,ps,vl,wu⟩:=id wo;let⟨as,Np,pa⟩:=id wu.hi;have la:=Paired.length pa;have zi:=jj.k (k:=kI) wu.hw;rw[show cL (qR ik rw ps vl) kI=⇑↥ik by kernel_rfl]at zi;exists Y,w,Y,zi,ik,Y,.inl (bG.of Np);refine⟨gQ,λr vt=>?_⟩;have s1:=ak vt (.lst []);have r1:(aN H r (.lst [])) r=⇑(.lst []):=af;have nr:=S.ne vt;have S1:=S.same s1;generalize aN H r (.lst [])=H1 at s1 r1 S1;refine⟨Y,l,c,3,rfl,S1,by decide,by decide,λv H2 v0 v1 S2 k2=>?_⟩;rw[show ↑(as.map V.ref)=↑aK by rw[cB,la]];refine⟨Y,E,rfl,Z,.inl ⟨by lia,by lia⟩,?_⟩
 have hm:∃ n:Nat,(v*(if (↑aK:Int)<1 then (↑aK:Int) else 1))=n/\n<=2/\(0<n->1<=↑aK):=by
  split
  ·rename_i z;refine⟨0,?_,by lia,by lia⟩;rw[show (↑aK:Int)=0 by lia];exact Int.mul_zero _
  ·exact⟨v.toNat,by rw[Int.mul_one];lia,by lia,λ_=>by lia⟩
 let⟨n,en,n2,n1⟩:=hm
 have hM:(if (↑aK:Int) > 1 then (↑aK:Int) else 1)=if 1<=↑aK then (↑aK:Int) else 1:=by split <;> split <;> lia
 refine⟨n,congrArg (λz=>[V.int z]) en,by lia,by lia,oF (lo:=0) (n:=((n:Nat):Int).toNat) (λj σ H3=>∃ (u4 u5 u6:Option V) (row:Row),σ=[⇑↥l,⇑↥w,⇑(.int (↑aK:Nat)),⇑↥r,u4,u5,u6]/\bW H3 r row/\↑row=j/\(∀ p∈row,0<=p.1/\p.1<p.2/\p.2<=↑aK/\p.2<=p.1+40)/\eU H3 l c/\cz l H H3) ⟨none,none,none,[],rfl,⟨[],(k2 r nr.1.symm).trans r1,.nil⟩,rfl,(λp hp=>nomatch hp),S2,(gB.aI.keep s1).trans (dD k2)⟩ ?_ ?_⟩
 ·rintro j σ H3 hj ⟨u4,u5,u6,row,rfl,R3,lr,hp,S3,K3⟩;have hk:1<=↑aK:=n1 ∅;rw[if_pos hk]at hM;refine⟨Y,Y,E,rfl,l,c,Y,S3,(by rw[hM];lia),(by rw[hM];lia),λa H4 a0 a1 S4 k4=>?_⟩;rw[hM]at a1;refine⟨Y,DU,λt ht=>?_⟩;have s5:=ak ht (.lst [.int 4,.int 4,.int 4,.int 40]);have h5:(aN H4 t (.lst [.int 4,.int 4,.int 4,.int 40])) t=⇑(.lst [.int 4,.int 4,.int 4,.int 40]):=af;have nt:=S4.ne ht;have S5:=S4.same s5;generalize aN H4 t (.lst [.int 4,.int 4,.int 4,.int 40])=H5 at s5 h5 S5;refine⟨Y,l,c,4,rfl,S5,by decide,by decide,λi H6 i0 i1 S6 k6=>?_⟩;let⟨z,hz,ez⟩:=Qw (xs:=[V.int 4,.int 4,.int 4,.int 40]) i0 (by show i<4;lia)
  obtain⟨q,rfl,q0,q1⟩:∃ q:Int,z=.int q/\4<=q/\q<=40:=by
   rcases List.mem_cons.mp hz with y|hz
   ·exact⟨4,y,by decide,by decide⟩
   rcases List.mem_cons.mp hz with y|hz
   ·exact⟨4,y,by decide,by decide⟩
   rcases List.mem_cons.mp hz with y|hz
   ·exact⟨4,y,by decide,by decide⟩
   ·exact⟨40,List.mem_singleton.mp hz,by decide,by decide⟩
  exists t,Q,K,bG.of ((k6 t nt.1.symm).trans h5),ez
  have hX:∃ x:Int,(if (if (↑aK:Int)-a<q then (↑aK:Int)-a else q) > 1 then (if (↑aK:Int)-a<q then (↑aK:Int)-a else q) else 1)=x/\1<=x/\x<=↑aK-a/\x<=40:=⟨Y,by split <;> split <;> lia,by split <;> split <;> lia,by split <;> split <;> lia⟩
  let⟨M,eM,M1,M2,M3⟩:=hX;refine⟨Y,Y,Z,E,rfl,E,rfl,l,c,Y,S6,(by rw[eM];lia),(by rw[eM];lia),λb H7 b0 b1 S7 k7=>⟨Z,?_⟩⟩;rw[eM]at b1;have K7:cz l H3 H7:=(((dD k4).trans (gB.aI.keep s5)).trans (dD k6)).trans (dD k7);let⟨bs,hb,pb⟩:=R3;let⟨ls,hl⟩:=S3.lst;have hb7:=K7 _ _ hb nr.1.symm;have pb7:bM H7 bs row:=pb.tups λa xs e=>K7 _ _ e (cK e hl);have lb:=Paired.length pb;refine⟨Y,.inl ⟨rfl,_,bG.of hb7⟩,Y,Y,Y,Z,oX,λp U0=>⟨r,Z,ak U0 _ _ _ hb7,(by rw[cB];exact aQ ∅),?_⟩⟩;have sp:=ak U0 (.tup [.int a,.int (a+(1+b))]);have p8:(aN H7 p (.tup [.int a,.int (a+(1+b))])) p=⇑(.tup [.int a,.int (a+(1+b))]):=af;have hb8:=sp _ _ hb7;have S8:=S7.same sp;have K8:cz l H (aN H7 p (.tup [.int a,.int (a+(1+b))])):=(K3.trans K7).trans (gB.aI.keep sp);have pb8:=bM.snoc (p:=(a,a+(1+b))) (pb7.same sp) p8;refine⟨Q,row++[(a,a+(1+b))],rfl,⟨bs++[p],by rw[gE];exact af,pb8.tups λy xs e=>?_⟩,by rw[cT,lr];rfl,λy hy=>?_,?_,λy ob e n=>?_⟩
  ·exact (aL (cK e hb8)).trans e
  ·rcases List.mem_append.mp hy with hy|hy
   ·exact hp y hy
   ·rw[List.mem_singleton.mp hy];exact⟨a0,by show a<a+(1+b);lia,by show a+(1+b)<=_;lia,by show a+(1+b)<=a+40;lia⟩
  ·let⟨n,ns,i,d,r',e1,e2,h3⟩:=S8;exact⟨n,ns,i,d,r',(aL nr.1).trans e1,(aL nr.2).trans e2,h3⟩
  ·exact (aL (aA e vt)).trans (K8 _ _ e n)
 rintro σ H3 ⟨u4,u5,u6,row,rfl,R3,lr,hp,S3,K3⟩;exact⟨Y,k r row H3 ∅ R3 hp vt S3 K3⟩
class inductive QU
 | mk (l c:Addr) (s m:Int) (_:vs=[↥l,.int s,.int m]) (_:eU H l c) (_:0<=m) (_:m<=10000) (_:∀ (a b u:Int) (t:Addr) (dd:LD) (H':Hp),Mv a b u m->(dd=.cut s a b\/dd=.Uw s a b u)->dd.At H' t->eU H' l c->cz l H H'->Q ↥t H')
theorem mX:aF ["_law_src_here","_law_sheet","_law_room","_law_start","_law_stop"] ["_law_src_here","_law_sheet","_law_room"] (az oh):=eO
theorem Bc:‹(2,101,["_law_src_here","_law_sheet","_law_room"],QU)›:=λD=>by
 have cI:bq P w K mg zt cO 1 _ _ Zd xC:=iy D;refine eS D.Ve.F mX λcU A zn s0 H vs Q E hr h=>?_;let⟨l,c,s,m,rfl,S,m0,m1,k⟩:=h;exists _,(aj (aZ (i:=3) mX.nd (aH D.C4 cI hr (aa (pv 0) (aa (bz dH (pv 2) ay) ah)))) (aj (aZ (i:=4) mX.nd (bz dH (pv 3) (aH D.C4 cI hr (aa (pv 0) (aa (bz dH (bz cY (pv 2) (pv 3)) ay) ah))))) (aj (bO (aV dY (aH D.C4 cI hr (aa (pv 0) (aa ay ah))) ay (bh _)) (au (aJ (cH (aa bI (aa (pv 1) (aa (pv 3) (aa (pv 4) ah))))))) br) (au (aJ (cH (aa bI (aa (pv 1) (aa (pv 3) (aa (pv 4) (aa (aH D.C4 cI hr (aa (pv 0) (aa (bz dH (bz dH (bz cY (pv 2) (pv 4)) (pv 3)) ay) ah))) ah)))))))))));refine⟨Y,Y,Z,l,c,Y,S,by lia,by lia,λa H1 a0 a1 S1 k1=>?_⟩;refine⟨Y,Y,Y,Y,Z,Z,l,c,Y,S1,by lia,by lia,λv H2 v0 v1 S2 k2=>⟨Z,?_⟩⟩;refine⟨Y,l,c,2,rfl,S2,by decide,by decide,λz H3 _ _ S3 k3=>⟨rfl,Y,?_⟩⟩;have K3:cz l H H3:=((dD k1).trans (dD k2)).trans (dD k3);refine cR (λ_=>?_) (λ_=>?_)
 ·refine⟨Y,Y,Y,DU,λt ht=>?_⟩;exact k a (a+v) 0 t (.cut s a (a+v)) _ ⟨⟨by lia,by lia,by lia⟩,by lia,by lia⟩ (.inl rfl) af (S3.same (ak ht _)) (K3.trans (gB.aI.keep (ak ht _)))
 ·refine⟨Y,Y,Y,Y,Y,Y,Z,Y,Z,Z,l,c,Y,S3,by lia,by lia,λu H4 u0 u1 S4 k4=>⟨aaw,λt ht=>?_⟩⟩;exact k a (a+v) u t (.Uw s a (a+v) u) _ ⟨⟨by lia,by lia,by lia⟩,by lia,by lia⟩ (.inr rfl) af (S4.same (ak ht _)) ((K3.trans (dD k4)).trans (gB.aI.keep (ak ht _)))
def LD.New(H:Hp):LD->Prop
 | .put _ _ r _=>H r=none
 | _=>True
class inductive QV
 | mk (W:Addr->Prop) (l c w:Addr) (aK:gD) (pq:gS) (rows:cJ) (sh:Int->List Int) (_:vs=[↥l,↥w]) (_:eU H l c) (_:Wo W H w aK pq rows) (_:∀ a,W a->a≠l/\a≠c) (_:Gd ↑aK rows sh) (_:1<=↑rows) (_:↑aK<=10000) (_:∀ (t:Addr) (dd:LD) (H':Hp),dd.At H' t->dd.Ok ↑aK ↑rows sh->dd.New H->eU H' l c->cz l H H'->Q ↥t H')
theorem gj:aF ["_law_src_here","_law_world_here","_law_rows","_law_way","_law_sheet","_law_other","_law_room","_law_place","_law_start"] ["_law_src_here","_law_world_here"] (az uS):=eO
theorem Hi:‹(43,102,["_law_src_here","_law_world_here"],QV)›:=λD=>by
 have cI:bq P w K mg zt cO 1 _ _ Zd xC:=iy D;refine eS D.Vf.F gj λcU A zn s0 H vs Q E hr h=>?_;let⟨W,l,c,w,aK,pq,rows,sh,rfl,S,wo,dw,g,r1,i1,k⟩:=h;have hu:=gT hr;exists _,(aj (aZ (i:=2) gj.nd (kq hu (pv 1) bI)) (aj (aZ (i:=3) gj.nd (aH D.C4 cI hr (aa (pv 0) (aa ay ah)))) (aj (aZ (i:=4) gj.nd (aH D.C4 cI hr (aa (pv 0) (aa (gp D.T.gg (pv 2)) ah)))) (aj (aZ (i:=5) gj.nd (aH D.C4 cI hr (aa (pv 0) (aa (gp D.T.gg (pv 2)) ah)))) (aj (aZ (i:=6) gj.nd (gp D.T.gg (aH D.Js (ju D 41) hr (aa (pv 2) (aa (pv 4) ah))))) (aj (aZ (i:=7) gj.nd (aH D.C4 cI hr (aa (pv 0) (aa (bz dH (pv 6) ay) ah)))) (aj (bO (aV jT (pv 3) ay (bh _)) (au (aJ (cH (aa bI (aa (pv 4) (aa (pv 7) (aa (aH D.Vd (Bb D) hr (aa (pv 0) (aa (pv 1) ah))) ah))))))) br) (aj (bO (aV jT (pv 3) ay (bh _)) (au (aJ (aH D.Ve (Bc D) hr (aa (pv 0) (aa (pv 4) (aa (pv 6) ah)))))) br) (aj (bO (aV jT (pv 3) ay (bh _)) (aj (aZ (i:=6) gj.nd (gp D.T.gg (aH D.Js (ju D 41) hr (aa (pv 2) (aa (pv 5) ah))))) (aj (aZ (i:=8) gj.nd (aH D.C4 cI hr (aa (pv 0) (aa (bz dH (pv 6) ay) ah)))) (au (aJ (cH (aa bI (aa (pv 4) (aa (pv 7) (aa (pv 5) (aa (pv 8) (aa (bz dH (pv 8) (aH D.C4 cI hr (aa (pv 0) (aa (bz dH (bz cY (pv 6) (pv 8)) ay) ah)))) ah))))))))))) br) (aj (bO (aV jT (pv 3) ay (bh _)) (au (aJ (cH (aa bI (aa (pv 4) (aa (pv 7) (aa (pv 5) ah))))))) br) (au (aJ (cH (aa bI (aa (pv 4) ah)))))))))))))));let⟨ik,iW,ps,vl,wu⟩:=id wo;have zr:=jj.k (k:=kR) wu.hw;rw[show cL (qR ik iW ps vl) kR=⇑↥iW by kernel_rfl]at zr;have l40:=g.ln;let⟨rk,rb,dn⟩:=id g.sn.rk;let⟨ls,hls⟩:=S.lst;have kp:∀ {H1:Hp},cz l H H1->iu (λ_=>False) H1 iW rows/\Wo W H1 w aK pq rows:=λ{H1} K1=>⟨(wu.hr.fr (λ_ z=>z) λa xs e wa _ _=>K1 _ _ e (dw a wa).1).at_,wo.fr (λa ob e z=>K1 _ _ e (dw a z).1) λa xs e=>K1 _ _ e (cK e hls)⟩
 have lv:∀ {H1:Hp},cz l H H1->∃ xs,H1 iW=⇑(.lst xs)/\↑xs=↑rows:=λ{H1} K1=>by
  let⟨xs,e,al⟩:=(kp K1).1;exact⟨xs,e,al.len⟩
 exists Y,w,Y,zr;refine⟨Y,l,c,13,rfl,S,by decide,by decide,λy H1 y0 y1 S1 k1=>?_⟩;have K1:cz l H H1:=dD k1;let⟨x1,e1,n1⟩:=lv K1;refine⟨Y,Y,iW,Y,.inl (bG.of e1),l,c,Y,S1,by lia,by lia,λs H2 a0 a1 S2 k2=>?_⟩;have K2:cz l H H2:=K1.trans (dD k2);let⟨x2,e2,n2⟩:=lv K2;refine⟨Y,Y,iW,Y,.inl (bG.of e2),l,c,Y,S2,by lia,by lia,λo H3 o0 o1 S3 k3=>?_⟩;have K3:cz l H H3:=K2.trans (dD k3);have is:qM ↑rows s:=⟨a0,by lia⟩;have io:qM ↑rows o:=⟨o0,by lia⟩;have ls:=g.sl s is.1 is.2;have lo:=g.sl o io.1 io.2;refine⟨Y,Y,_,iW,rows,s,sh,rk,rfl,(kp K3).1,by lia,g.sn.sd,is.1,is.2,g.sn.ss,g.sn.ln,dn,by have:=rb s;lia,λq H4 hq s4 fq=>⟨q,Y,.inl (bG.of hq),?_⟩⟩;rw[cB];have K4:cz l H H4:=K3.trans (gB.aI.keep s4);refine⟨Y,Y,Z,l,c,Y,S3.same s4,by lia,by lia,λp H5 p0 p1 S5 k5=>?_⟩;have K5:cz l H H5:=K4.trans (dD k5);have ip:0<=p/\p<=↑(sh s):=⟨p0,by lia⟩;refine⟨Y,Z,Y,cR (λ_=>?_) (λ_=>?_)⟩
 ·refine⟨Y,Y,Y,Y,l,c,w,W,aK,pq,rows,rfl,S5,(kp K5).2,dw,by lia,λr row H6 r2 Jp hq fr S6 K6=>⟨DU,λt ht=>?_⟩⟩;have st:=ak ht (.tup [.str "put",.int s,.int p,↥r]);refine k t (.put s p r row) _ ⟨af,Jp.same st⟩ ⟨is,ip,r2,hq⟩ ?_ (S6.same st) ((K5.trans K6).trans (gB.aI.keep st));show H r=none
  cases e:H r with
  | none=>rfl
  | some ob =>
   exfalso;by_cases n:r=l
   ·let⟨_,hl5⟩:=S5.lst;rw[n,hl5]at fr;cases fr
   ·rw[K5 _ _ e n]at fr;cases fr
 refine⟨Y,Z,Y,cR (λ_=>?_) (λ_=>?_)⟩
 ·refine⟨Y,Y,Y,l,c,s,Y,S5,by lia,by lia,λa b u t dd H6 mv hdd Y3 S6 K6=>k t dd H6 Y3 ?_ ?_ S6 (K5.trans K6)⟩
  ·rcases hdd with rfl|rfl
   ·exact⟨is,mv.1⟩
   ·exact⟨is,mv⟩
  ·rcases hdd with rfl|rfl <;> trivial
 refine⟨Y,Z,Y,cR (λ_=>?_) (λ_=>?_)⟩
 ·refine⟨Y,Y,_,iW,rows,o,sh,rk,rfl,(kp K5).1,by lia,g.sn.sd,io.1,io.2,g.sn.ss,g.sn.ln,dn,by have:=rb o;lia,λq6 H6 hq6 s6 fq6=>⟨q6,Y,.inl (bG.of hq6),?_⟩⟩;rw[cB];refine⟨Y,Y,Z,l,c,Y,S5.same s6,by lia,by lia,λa H7 b0 b1 S7 k7=>?_⟩;refine⟨Y,Y,Y,Y,Y,Y,Y,Y,Z,Z,l,c,Y,S7,by lia,by lia,λv H8 v0 v1 S8 k8=>⟨Z,aax,λt ht=>?_⟩⟩;have st:=ak ht (.tup [.str "quote",.int s,.int p,.int o,.int a,.int (a+v)]);exact k t (.VJ s p o a (a+v)) _ af ⟨is,ip,io,by lia,by lia,by lia⟩ trivial (S8.same st) ((((K5.trans (gB.aI.keep s6)).trans (dD k7)).trans (dD k8)).trans (gB.aI.keep st))
 refine⟨Y,Z,Y,cR (λ_=>?_) (λ_=>?_)⟩
 ·refine⟨Y,Y,Y,DU,λt ht=>?_⟩;have st:=ak ht (.tup [.str "window",.int s,.int p,.int o]);exact k t (.win s p o) _ af ⟨is,ip,io⟩ trivial (S5.same st) (K5.trans (gB.aI.keep st))
 ·refine⟨Y,oX,λt ht=>?_⟩;have st:=ak ht (.tup [.str "fix",.int s]);exact k t (.fix s) _ af is trivial (S5.same st) (K5.trans (gB.aI.keep st))
class inductive LG
 | mk (r:Addr) (rows:cJ) (s:Int) (p:Int->Bool) (_:vs=[↥r,.int s]) (_:gc H r (rows.map aC)) (_:↑rows<=1000) (_:(∀ es∈rows,↑es<=1000)) (_:gf rows) (_:0<=s) (_:s<↑rows) (_:(∀ x,p x=true↔(x≠s/\Reach (gO rows) x s))) (_ :
 ∀ (o:Addr) (H':Hp),H' o=⇑(.lst (((run 0 ↑rows).filter p).map V.int))->aI H H'->H o=none->Q ↥o H')
theorem LH:aF ["rows","sheet","others"] ["rows","sheet"] (az zX):=eO
theorem QW:‹(3,103,["rows","sheet"],LG)›:=λD=>by
 refine eS D.Vg.F LH λcU A zn s0 H vs Q E hr h=>?_;let⟨r,rows,s,p,rfl,hR,dJ,hes,pC,h0,h1,hp,k⟩:=h;let⟨qL,hrv,rL⟩:=id hR;have rl:=rL.len;rw[cB]at rl;refine⟨_,(aj (zw (N:=["number","sheet"]) (i:=2) (jI (sc:=az zX) (NX:=["rows","sheet","others"]) (jx:=[none,some 1]) rfl rfl rfl nofun nofun rfl nofun rfl nofun) rfl LH.nd rfl rfl (iF rfl D.T.jb (aa (gp D.T.gg (pv 0)) ah)) (λ_ _ _ _ _ _=>(bQ (i:=0) (show List.Nodup (["number","sheet"]:List Str) by decide +kernel))) (λ_ _ _ _ _ _=>vL (aV Cn (pv 0) (pv 1) (bh _))) (λ_ _ _ _ _ _=>(pv 0))) (au (aJ (gI (N:=["number","rows","sheet"]) (jI (sc:=az zX) (NX:=["rows","sheet","others"]) (jx:=[none,some 0,some 1]) rfl rfl rfl nofun nofun rfl nofun rfl nofun) rfl (cu (pv 2)) (λ_ _ _ _ _ _=>(bQ (i:=0) (show List.Nodup (["number","rows","sheet"]:List Str) by decide +kernel))) (λ_ _ _ _ _ _=>vL (zJ (Ky (aH D.Xm (rM D) hr (aa (pv 1) (aa (pv 0) (aa (pv 2) ah))))))) (λ_ _ _ _ _ _=>(pv 0)))))),?_⟩;refine⟨Y,r,Y,.inl (bG.of hrv),Y,by lia,by lia,λacc cP=>nB (λi σ H2=>∃ u:Option V,σ=[u,⇑(.int s)]/\H2 acc=⇑(.lst (((run 0 i).filter (λx=>decide (x≠s))).map V.int))/\aI H H2) ?_ ?_ ?_⟩
 ·exact⟨none,rfl,af,ak cP _⟩
 ·rintro i σ H2 hi ⟨u,rfl,h2,s2⟩;have st:=oU 0 i
  have bl:↑((run 0 i).filter (λx=>decide (x≠s)))<=i:=by
   have z:=List.length_filter_le (λx=>decide (x≠s)) (run 0 i);rw[vQ]at z;exact z
  exists Y,Y,rfl,Y;by_cases c:(0+(i:Int))=s
  ·refine Cw (by rw[c]) ⟨Y,?_,s2⟩;rw[st,List.filter_append];have e:[(0+(i:Int))].filter (λx=>decide (x≠s))=[]:=by simp[c]
   rw[e,fV];exact h2
  ·refine cR (λ_=>?_) (λz=>absurd (by simp;lia) z);refine⟨Y,_,h2,(by rw[cB];exact aQ ∅),Y,?_,bH cP s2 (aG acc _ _)⟩;rw[af,st,List.filter_append]
   have e:[(0+(i:Int))].filter (λx=>decide (x≠s))=[0+(i:Int)]:=by
    rw[List.filter_cons_of_pos (p:=λx=>decide (x≠s)) (decide_eq_true c)];rfl
   rw[e,gE];rfl
 ·rintro σ H2 ⟨u,rfl,h2,s2⟩;refine⟨Y,acc,rfl,⟨_,bG.of h2⟩,λEH Dq=>fE (K:=K) (a:=acc) (xs:=((run 0 ((↑qL:Int)).toNat).filter (λx=>decide (x≠s))).map V.int) (λi σ H3=>∃ u:Option V,σ=[u,⇑↥r,⇑(.int s)]/\H3 EH=⇑(.lst (((((run 0 ((↑qL:Int)).toNat).filter (λx=>decide (x≠s))).take i).filter p).map V.int))/\aI H2 H3) ?_ ?_ ?_ ?_⟩
  ·exact⟨none,rfl,af,ak Dq _⟩
  ·rintro i σ H3 _ ⟨_,_,_,s3⟩;exact bG.of (s3 _ _ h2)
  ·rintro i x σ H3 hi ⟨u,rfl,h3,s3⟩;rw[mY]at hi;let⟨x,ex,rfl⟩:=Option.map_eq_some_iff.mp hi;have hm:=List.mem_filter.mp (nJ ex);have xr:=Jh hm.1;have xs:x≠s:=of_decide_eq_true hm.2;have st:=take_snoc ex
   have bl:↑((((run 0 ((↑qL:Int)).toNat).filter (λx=>decide (x≠s))).take i).filter p)<=1000:=by
    have z:=List.length_filter_le p (((run 0 ((↑qL:Int)).toNat).filter (λx=>decide (x≠s))).take i);have z2:=List.length_filter_le (λx=>decide (x≠s)) (run 0 ((↑qL:Int)).toNat);rw[vQ]at z2;rw[gr]at z;lia
   refine⟨Y,Y,Y,r,rows,x,s,rfl,(hR.same s2).same s3,dJ,hes,pC,by lia,by lia,λPq o H4 ho s4 hw l2 l3 QX=>?_,λhnr H4 s4=>?_⟩
   ·have px:p x=true:=(hp x).mpr ⟨xs,by
     rw[List.getLast?_eq_getElem?]at QX;rw[show Pq.length-1=(Pq.length-2)+1 by lia]at QX
     exact hw.reach _ _ QX⟩
    refine⟨Y,cR (λ_=>?_) (λz=>absurd (by simp) z)⟩;refine⟨Y,_,s4 _ _ h3,(by rw[cB];exact aQ ∅),Y,?_,bH Dq (s3.trans s4) (aG EH _ _)⟩;rw[af,st,List.filter_append,List.filter_cons_of_pos px,gE];rfl
   ·have px:p x=false:=by
     cases q:p x with
     | false=>rfl
     | true=>exact absurd ((hp x).mp q).2 hnr
    refine⟨Y,cR (λz=>absurd z (by simp)) (λ_=>⟨Y,?_,s3.trans s4⟩)⟩;rw[st,List.filter_append,List.filter_cons_of_neg (by rw[px];exact gF),List.filter_nil,fV];exact s4 _ _ h3
  ·rintro σ H3 ⟨u,rfl,h3,s3⟩
   have e:((run 0 ((↑qL:Int)).toNat).filter (λx=>decide (x≠s))).filter p=(run 0 ↑rows).filter p:=by
    rw[List.filter_filter,show ((↑qL:Int)).toNat=↑rows by lia];refine List.filter_congr λx _=>?_
    cases q:p x with
    | false=>rfl
    | true=>simp[((hp x).mp q).1]
   rw[cB,gH,e]at h3
   exact k EH H3 h3 (s2.trans s3) (by
    cases z:H EH with
    | none=>rfl
    | some o=>exact absurd ((s2 _ _ z).symm.trans Dq) (by simp))
abbrev e0(n:Nat):cJ:=List.replicate n []
theorem EI(n:Nat):e0 n++[[]]=e0 (n+1):=(List.replicate_succ').symm
theorem yl{n:Nat}{es:List Int}(h:es∈e0 n):es=[]:=(List.mem_replicate.mp h).2
theorem Ys{n:Nat}{x y:Int}:¬ gO (e0 n) x y:=λ⟨_,es,he,hy⟩=>by
 rw[yl (nJ he)]at hy;cases hy
theorem QY(n:Nat):gf (e0 n):=λes he y hy=>by
 rw[yl he]at hy;cases hy
theorem QZ(n:Nat):Bq (e0 n):=⟨λ_=>0,λ_=>Nat.zero_le _,λ_ _ z=>absurd z Ys⟩
def Q0{n:Nat}(h:n<=100):nE (e0 n) λ_=>0:=by
 refine⟨by rw[List.length_replicate];exact h,λes he=>by rw[yl he];exact Nat.zero_le _,QY n,QZ n,λx es _ he=>?_,λ_ _ _=>by decide⟩;rw[yl (nJ he)];rfl
def ze.Yt{H H3:Hp}{c w x:Addr}{U U' W:Addr->Prop}{pe:gS}{rows:cJ}{aB dh:gW}{aK Y4:gD}{nW Lx:Nat}{bV:Vl}(St:ze C CS CW CB H l c w x U W pe rows pe rows aB aK nW bV)(Yu:m7 C CS CW CB U' H3 x (pe++[rows]) dh (aK++Y4) Lx bV)(E5:AV U U' H H3):∃ (ik iW:Addr) (as:List Addr),jj H3 w (kV kI) (⇑↥ik)/\H3 ik=⇑(.lst (as.map V.ref))/\↑as=↑aK/\∀ (H7 H8:Hp) (bs:List Addr),aI H3 H7->Paired (GY H7) bs Y4->cz ik H7 H8->H8 ik=⇑(.lst ((as++bs).map V.ref))->jj H8 w (kV kR) (⇑↥iW)/\Wo W H8 w (aK++Y4) pe rows/\(∀ ik ps,(∃ rw vl,H8 w=⇑(.dK (qR ik rw ps vl)))->Nn W ik ps H8 iW rows)/\∀ H9,Wo W H9 w (aK++Y4) (pe++[rows]) rows->(∀ a ob,H8 a=⇑ob->¬ W a->H9 a=⇑ob)->(∀ a xs,H8 a=⇑(.tup xs)->H9 a=⇑(.tup xs))->ze C CS CW CB H9 l c w x U' W (pe++[rows]) rows (pe++[rows]) rows dh (aK++Y4) Lx bV/\∀ a ob,H a=⇑ob->¬ U a->¬ W a->H9 a=⇑ob/\¬ U' a:=by
 have agm:=St.src.fru E5 (λz=>(St.du l z).2.1 rfl) (λz=>(St.du c z).2.2 rfl);have wo3:=St.wo.fr (λa ob e z=>E5.2.1 _ _ e (λy=>(St.du a y).1 z)) E5.2.2
 have du3:∀ a,U' a->¬ W a/\a≠l/\a≠c:=λa z=>by
  rcases E5.1 a z with y|y
  ·exact St.du a y
  ·exact (St.new y).2
 let⟨ik,iW,ps,vl,wu⟩:=id wo3;let⟨as,Np,pa⟩:=id wu.hi;have zi:=jj.k (k:=kI) wu.hw;rw[show cL (qR ik iW ps vl) kI=⇑↥ik by kernel_rfl]at zi;refine⟨ik,iW,as,zi,Np,Paired.length pa,λH7 H8 bs s7 pb k8 i8=>?_⟩;have Yv:=s7 _ _ Np;have UA:∀ a ob,H3 a=⇑ob->a≠ik->H8 a=⇑ob:=λa ob e n=>k8 _ _ (s7 _ _ e) n;have t38:∀ a xs,H3 a=⇑(.tup xs)->H8 a=⇑(.tup xs):=λa xs e=>UA _ _ e (cK e Np);have X9:∀ a xs,H7 a=⇑(.tup xs)->H8 a=⇑(.tup xs):=λa xs e=>k8 _ _ e (cK e Yv);have w8:H8 w=⇑(.dK (qR ik iW ps vl)):=UA _ _ wu.hw (cK wu.hw Np);have hr8:Nn W ik ps H8 iW rows:=wu.hr.fr (λ_ z=>z) λa xs e _ n _=>UA _ _ e n;have zr:=jj.k (k:=kR) w8;rw[show cL (qR ik iW ps vl) kR=⇑↥iW by kernel_rfl]at zr
 have VM:Lv W H8 w ik iW ps vl (aK++Y4) pe rows:=by
  let⟨Vz,hp,al⟩:=wu.hp;refine⟨wu.ww,wu.wi,wu.wp,wu.wv,λa z=>?_,w8,⟨as++bs,i8,BS (Paired.Ig pa λa q e=>t38 _ _ e) (Paired.Ig pb λa q e=>X9 _ _ e)⟩,hr8,⟨Vz,UA _ _ hp wu.ne.symm,al⟩,wu.ne⟩;by_cases e:a=ik
  ·rw[e];exact⟨_,i8⟩
  ·let⟨ob,e2⟩:=wu.al a z;exact⟨ob,UA _ _ e2 e⟩
 refine⟨zr,⟨ik,iW,ps,vl,VM⟩,λRu xO ⟨rw2,vl',e⟩=>?_,λH9 wo9 Y5 tp9=>⟨⟨?_,(Yu.fr (λa ob e z=>UA _ _ e (λq=>(du3 a z).1 (by rw[q];exact wu.wi))) t38).fr (λa ob e z=>Y5 _ _ e (du3 a z).1) tp9,tN,wo9,du3,St.dw⟩,λa ob e nU nW=>⟨Y5 _ _ (UA _ _ (E5.2.1 _ _ e nU) (λq=>nW (by rw[q];exact wu.wi))) nW,λz=>?_⟩⟩⟩
 ·rw[w8]at e;simp only[Option.some.injEq,HO.dK.injEq,qR,List.cons.injEq,Prod.mk.injEq,V.ref.injEq,true_and,and_true]at e;let⟨rfl,rfl,rfl,rfl⟩:=e;exact hr8
 ·let⟨n,ns,i,d,r,e1,e2,h3⟩:=agm;exact⟨n,ns,i,d,r,Y5 _ _ (UA _ _ e1 (λq=>(St.dw ik wu.wi).1 q.symm)) (λq=>(St.dw l q).1 rfl),Y5 _ _ (UA _ _ e2 (λq=>(St.dw ik wu.wi).2 q.symm)) (λq=>(St.dw c q).2 rfl),h3⟩
 ·rcases E5.1 a z with y|y
  ·exact nU y
  ·rw[y]at e;cases e
def UB{H3 H7:Hp}{t:Addr}{h:Int}{cs:List Nat}{i ch:Nat}{bs:List Addr}(cP:H3 acc=none)(hi:cs[i]?=⇑ch)(hb:H7 acc=⇑(.lst (bs.map V.ref)))(pb:Paired (GY H7) bs (qo h (cs.take i)))(s7:aI H3 H7)(ht:H7 t=none):(aN (aN H7 t (.tup [.int h,By ch])) acc (.lst (bs.map V.ref++[↥t]))) acc=⇑(.lst ((bs++[t]).map V.ref))/\Paired (GY (aN (aN H7 t (.tup [.int h,By ch])) acc (.lst (bs.map V.ref++[↥t])))) (bs++[t]) (qo h (cs.take (i+1)))/\aI H3 (aN (aN H7 t (.tup [.int h,By ch])) acc (.lst (bs.map V.ref++[↥t]))):=by
 refine⟨?_,?_,λb ob e=>?_⟩
 ·rw[af,gE];rfl
 ·have nta:t≠acc:=(aA hb ht).symm;rw[take_snoc hi];unfold qo;rw[gE];refine Ew (Paired.Ig pb λa q e=>?_) ?_
  ·show aN _ acc _ a=_;rw[aL (cK e hb)];exact ak ht _ _ _ e
  ·show aN _ acc _ t=_;rw[aL nta];exact af
 ·rw[aL (aA e cP)];exact ak ht _ _ _ (s7 _ _ e)
abbrev rtW:List Nat:=(Str.ofString "root ink#").cps.toList
def Off(l:Addr)(U W U' W':Addr->Prop)(H H':Hp):Prop:=∀ a ob,H a=⇑ob->¬ U a->¬ W a->a≠l->H' a=⇑ob/\¬ U' a/\¬ W' a
class inductive LI(C CS CW CB:Addr)
 | mk (l c w x:Addr) (U W:Addr->Prop) (kd:Addr × Addr) (_:vs=[↥l,↥w,↥x]) (_:ze C CS CW CB H l c w x U W [[]] [] [[]] [] [] [] 0 ([],kd)) (_:∀ (U' W':Addr->Prop) (pe:gS) (n:Nat) (aK:gD) (aB:gW) (H':Hp),2<=n->n<=4->↑aK<=18->↑pe<=10->↑aB<=10->ze C CS CW CB H' l c w x U' W' pe (e0 n) pe (e0 n) aB aK 2 ([],kd)->(∀ q∈aK,Hd q.1)->Off l U W U' W' H H'->Q (.bl true) H')
theorem lW:aF ["_law_src_here","_law_world_here","_law_house","_law_hand","_law_text","_law_k"] ["_law_src_here","_law_world_here","_law_house"] (az nv):=eO
theorem EJ:‹(8,104,["_law_src_here","_law_world_here","_law_house"],(LI C CS CW CB))›:=λD=>by
 specialize eS D.Vh.F lW;let⟨l,c,w,x,U,W,kd,rfl,St,k⟩:=h;have hu:=gT hr;refine⟨_,(aj (dX PassesOwn.never rfl (cu (bL (aa ay (aa (bz N9 ay ay) ah)))) (bQ (i:=3) lW.nd) (aj (aZ (i:=4) lW.nd (gZ gJ.Xf bI lO (iG (aH D.C4 (iy D) hr (aa (pv 0) (aa ay ah)))))) (aj (aT (cA (pv 2) D.aM D.Td (qB D) hr bC (aa (pv 3) (aa (pv 4) ah)))) (aj (aT (dQ qF PySem.F.slot_list_extend PySem.F.type_list_extend jY (kq hu (pv 1) bI) (aa (gI (N:=["_law_sign","_law_hand"]) (jI (sc:=az nv) (NX:=["_law_src_here","_law_world_here","_law_house","_law_hand","_law_text","_law_k"]) (jx:=[none,some 3]) rfl rfl rfl nofun nofun rfl nofun rfl nofun) rfl (Xe (pv 4)) (λ_ _ _ _ _ _=>(bQ (i:=0) (show List.Nodup (["_law_sign","_law_hand"]:List Str) by decide +kernel))) (λ_ _ _ _ _ _=>fZ) (λ_ _ _ _ _ _=>(cH (aa (pv 1) (aa (pv 0) ah))))) ah))) (au (aT (aH D.Xy (yK D) hr (aa (pv 1) (aa (kq hu (pv 1) bI) ah))))))))) (aj (dX PassesOwn.never rfl (iF rfl D.T.jb (aa (bz dH ay (aH D.C4 (iy D) hr (aa (pv 0) (aa ay ah)))) ah)) (bQ (i:=5) lW.nd) (aj (aT (fc (pv 2) D.aM D.Xv (ye D) hr bC)) (au (aT (aH D.Xy (yK D) hr (aa (pv 1) (aa (bz jC (kq hu (pv 1) bI) (bL (aa (bL ah) ah))) ah))))))) (au (aJ ng)))),?_⟩;refine⟨Z,⟨by decide,by decide,by decide⟩,oX,λa0 Ll=>⟨a0,rfl,⟨_,bG.of af⟩,?_⟩⟩;have n0:=St.new Ll;have s0:=ak Ll (.lst [.int 3,.int ((10:Int)^(50:Int).toNat)]);have h0:(aN H a0 (.lst [.int 3,.int ((10:Int)^(50:Int).toNat)])) a0=⇑_:=af;have St0:=St.same s0;generalize aN H a0 (.lst [.int 3,.int ((10:Int)^(50:Int).toNat)])=H0 at s0 h0 St0;refine dB (K:=K) (a:=a0) (xs:=[.int 3,.int ((10:Int)^(50:Int).toNat)]) (λj σ H1=>∃ (u3 u4:Option V) (U1 W1:Addr->Prop) (pe:gS) (aK:gD) (aB:gW),σ=[⇑↥l,⇑↥w,⇑↥x,u3,u4,none]/\ze C CS CW CB H1 l c w x U1 W1 pe [] pe [] aB aK j ([],kd)/\↑pe=j+1/\↑aK<=9*j/\↑aB=j/\(∀ q∈aK,Hd q.1)/\Off l U W U1 W1 H0 H1) ⟨none,none,U,W,Q,rfl,St0,rfl,fK _,rfl,(λ_ z=>by cases z),λa ob e nU nW _=>⟨e,nU,nW⟩⟩ (by rintro i σ H2 _ ⟨_,_,_,_,_,_,_,_,_,_,_,_,_,e⟩;exact bG.of (e a0 _ h0 n0.1 n0.2.1 n0.2.2.1).1) ?_ ?_
 ·rintro j v σ H1 hj ⟨u3,u4,U1,W1,pe,aK,aB,rfl,Y6,lp,li,ll,hh,o1⟩;have j2:j<2:=(List.getElem?_eq_some_iff.mp hj).1
  obtain⟨h,rfl,fh,h2⟩:∃ h:Int,v=.int h/\rN h/\Hd h:=by
   rcases List.mem_cons.mp (nJ hj) with e|e
   ·exact⟨3,e,⟨by decide,by decide⟩,.inl rfl⟩
   ·exact⟨_,List.mem_singleton.mp e,⟨by decide,by decide⟩,.inr rfl⟩
  refine⟨Y,l,c,10,rfl,Y6.src,by decide,by decide,λv H2 v0 v1 S2 k2=>⟨Y,rtW,congrArg V.str (qc _).symm,nofun,?_⟩⟩
  have lc:↑(gJ.BB rtW none (⇑v))<=9:=by
   unfold gJ.BB;rw[gr,qH,show ↑rtW=9 by decide +kernel];lia
  generalize gJ.BB rtW none (⇑v)=cs at lc;have Rx:=Y6.mv (dD k2) S2;let⟨S',Yd,d',YS,sh',bl',GX,JS,bk',dS',DA,HS,dw',sg',ow',pw',db',tb',JM,LU⟩:=id Rx.EA;refine⟨Y,x,d',Y,LU.L.hx,rfl,Y,Y,U1,x,pe,aB,aK,j,_,h,cs,[],rfl,Rx.EA,fh,by lia,by lia,by lia,Rx.lst,by decide,by lia,by lia,λU' q H3 Yu E5 hq=>?_⟩;let⟨ik,iW,as,zi,Np,la,P⟩:=Rx.Yt Yu E5;refine⟨Y,w,Y,zi,.inl ⟨rfl,_,bG.of Np⟩,Y,cs,rfl,λacc cP=>MF (λj σ H7=>∃ (u:Option V) (bs:List Addr),σ=[u,⇑(.int h)]/\H7 acc=⇑(.lst (bs.map V.ref))/\Paired (GY H7) bs (qo h (cs.take j))/\aI H3 H7) ⟨none,[],rfl,af,.nil,ak cP _⟩ ?_ ?_⟩
  ·rintro i ch σ H7 hi ⟨u,bs,rfl,hb,pb,s7⟩;have lb:=Paired.length pb;rw[tF,gr]at lb;refine⟨Y,Y,oX,λt ht=>⟨_,ak ht _ _ _ hb,(by rw[cB];exact aQ ∅),_,bs++[t],rfl,UB cP hi hb pb s7 ht⟩⟩
  rintro σ H7 ⟨u,bs,rfl,hb,pb,s7⟩;rw[gH]at pb;have lb:=Paired.length pb;rw[tF]at lb;have Yv:=s7 _ _ Np;refine⟨ik,acc,Z,Yv,hb,(by rw[cB,cB];exact gG (aQ ∅)),?_⟩;rw[← gE];let⟨zr,VM,rv,iS⟩:=P H7 _ bs s7 pb (aG ik _ _) af;refine⟨Y,Y,w,Y,zr,W1,w,iW,aK++qo h cs,pe,[],[],rfl,VM,by lia,rv,λH9 wo9 Y5 tp9 _=>?_⟩;let⟨Hj,off⟩:=iS H9 wo9 Y5 tp9;refine⟨E,U',W1,pe++[[]],aK++qo h cs,Y,Hj,by rw[cT];simp only[jS,lM];lia,by rw[cT,tF];lia,by rw[cT];simp only[jS,lM];lia,(λq hq=>(List.mem_append.mp hq).elim (hh q) λz=>?_),λa ob e nU nW nl=>?_⟩
  ·unfold qo at z;let⟨_,_,rfl⟩:=List.mem_map.mp z;exact h2
  ·let⟨y1,y2,y3⟩:=o1 a ob e nU nW nl;let⟨z1,z2⟩:=off a ob ((dD k2) _ _ y1 nl) y2 y3;exact⟨z1,z2,y3⟩
 rintro σ H1 ⟨u3,u4,U1,W1,pe,aK,aB,rfl,Y6,lp,li,ll,hh,o1⟩;have lx:↑([V.int 3,.int ((10:Int)^(50:Int).toNat)])=2:=rfl;rw[lx]at Y6 lp li ll;refine⟨Y,l,c,3,rfl,Y6.src,by decide,by decide,λv H2 v0 v1 S2 k2=>⟨Z,2+v,rfl,by lia,by lia,?_⟩⟩;have Rx:=Y6.mv (dD k2) S2;refine oF (lo:=0) (n:=(2+v).toNat) (λj σ H3=>∃ (u5:Option V) (U3 W3:Addr->Prop) (pe:gS) (aB:gW),σ=[⇑↥l,⇑↥w,⇑↥x,u3,u4,u5]/\ze C CS CW CB H3 l c w x U3 W3 pe (e0 j) pe (e0 j) aB aK 2 ([],kd)/\↑pe=j+3/\↑aB=j+2/\Off l U W U3 W3 H0 H3) ⟨none,U1,W1,pe,aB,rfl,Rx,by lia,by lia,λa ob e nU nW nl=>⟨(dD k2) _ _ (o1 a ob e nU nW nl).1 nl,(o1 a ob e nU nW nl).2⟩⟩ ?_ ?_
 ·rintro j σ H3 hj ⟨u5,U3,W3,pe,aB,rfl,Ry,lp,ll,o3⟩;have j4:j<4:=by lia
  have l0:↑(e0 j)=j:=List.length_replicate;let⟨S',Yd,d',YS,sh',bl',GX,JS,bk',dS',DA,HS,dw',sg',ow',pw',db',tb',JM,LU⟩:=id Ry.EA;refine⟨Y,x,d',Y,LU.L.hx,rfl,S',x,d',YS,sh',bl',GX,JS,bk',dS',DA,HS,pe,JM,aB,e0 j,rfl,LU.L,Ry.lst,by lia,by lia,by lia,by lia,⟨⟨_,by rw[EI];exact Q0 ∅⟩,λS'' H4 L4 fr4=>?_⟩⟩;rw[EI]at L4;let⟨U',agr,fu⟩:=LU.wB L4 fr4;let⟨E8,fS⟩:=Ry.af9 agr (rows':=e0 (j+1)) (by simp) fu;let⟨ik,iW,ps,vl,wu⟩:=id E8.wo;have zr:=jj.k (k:=kR) wu.hw;rw[show cL (qR ik iW ps vl) kR=⇑↥iW by kernel_rfl]at zr;let⟨_,_,_,vs,hvs,al⟩:=id wu.hr;have lv:=cj.len al;refine⟨Y,Y,w,Y,zr,gQ,λe he=>⟨ku,λo ho=>?_⟩⟩;have s1:=ak he (.lst []);have e1:(aN H4 e (.lst [])) e=⇑(.lst []):=af;generalize aN H4 e (.lst [])=H5 at s1 e1 ho;have s2:=ak ho (.lst [↥e]);have o2:(aN H5 o (.lst [↥e])) o=⇑(.lst [↥e]):=af;show ZV _ _ (aN H5 o (.lst [↥e])) _;generalize aN H5 o (.lst [↥e])=H6 at s2 o2;have s02:=s1.trans s2;refine⟨iW,o,Z,s02 _ _ hvs,o2,(by rw[lv];exact gG (aQ (by simp only[jS,lM];lia))),λr Ju=>?_⟩;have s3:=ak Ju (.lst (vs++[↥e]));have r3:(aN H6 r (.lst (vs++[↥e]))) r=⇑(.lst (vs++[↥e])):=af;generalize aN H6 r (.lst (vs++[↥e]))=H7 at s3 r3;have P5:=s02.trans s3;have NY:=E8.same P5;have ne:=E8.new he;have nr:=E8.new (aR s02 Ju);have e3:=s3 _ _ (s2 _ _ e1);have wu3:Lv W3 H7 w ik iW ps vl aK pe (e0 j):=wu.fr (λa ob e _=>P5 _ _ e) (λa xs e=>P5 _ _ e)
  have Yn:Lv (λa=>W3 a\/a=e\/a=r) H7 w ik iW ps vl aK pe (e0 j):=ze.VB wu3 (λa z=>.inl z) (by
   rintro a (z|z|z)
   ·exact wu3.al a z
   ·rw[z];exact⟨_,e3⟩
   ·rw[z];exact⟨_,r3⟩)
  have nn:∀ {a b:Addr},W3 a->¬ W3 b->b≠a:=λwa nb z=>nb (by rw[z];exact wa);refine⟨λa=>W3 a\/a=e\/a=r,w,r,aK,pe,e0 j,e0 (j+1),rfl,⟨ik,iW,ps,vl,Yn⟩,by lia,λRu xO ⟨rw2,vl',ee⟩=>?_,λH8 VM NK tp8 _=>?_⟩
  ·rw[wu3.hw]at ee;simp only[Option.some.injEq,HO.dK.injEq,qR,List.cons.injEq,Prod.mk.injEq,V.ref.injEq,true_and,and_true]at ee;let⟨rfl,rfl,rfl,rfl⟩:=ee;exists .inr (.inr rfl),nn wu.wi nr.2.1,nn wu.wp nr.2.1,_,r3;rw[← EI];exact cj.snoc (al.mono λ_ _=>Vy.fr (λa z=>.inl z) (λa xs e _ _ _=>P5 _ _ e)) ⟨e,rfl,.inr (.inl rfl),nn wu.wi ne.2.1,nn wu.wp ne.2.1,e3⟩
  refine⟨_,U',_,pe++[e0 (j+1)],Y,NY.kept VM (λa z y=>?_) (λa y=>?_) NK tp8,by rw[cT];simp only[jS,lM];lia,by rw[cT];simp only[jS,lM];lia,λa ob e' nU nW nl=>?_⟩
  ·rcases y with y|y|y
   ·exact (E8.du a z).1 y
   ·exact ne.1 (by rw[← y];exact z)
   ·exact nr.1 (by rw[← y];exact z)
  ·rcases y with y|y|y
   ·exact E8.dw a y
   ·rw[y];exact ne.2.2
   ·rw[y];exact nr.2.2
  ·let⟨y1,y2,y3⟩:=o3 a ob e' nU nW nl;have y4:=fS.2.1 _ _ y1 nl y2 y3;have nw:¬ (W3 a\/a=e\/a=r):=λz=>z.elim y3 λz=>z.elim (λz=>by rw[z,he]at y4;cases y4) λz=>by rw[z,aR s02 Ju]at y4;cases y4
   exact⟨NK _ _ (P5 _ _ y4) nw,λz=>(fS.1 a (.inl z)).elim y2 λz=>z.elim y3 λz=>(by rw[z]at y1;cases y1),nw⟩
 rintro σ H3 ⟨u5,U3,W3,pe,aB,rfl,Ry,lp,ll,o3⟩;exact k U3 W3 pe (2+v).toNat aK aB H3 ∅ ∅ ∅ ∅ ∅ Ry hh λa ob e nU nW nl=>o3 a ob (s0 _ _ e) nU nW nl
inductive wJ(N:Addr->Prop)(H:Hp)(o:Addr)(rows:cJ)(sh:Int->List Int)(n:Nat):Prop
 | mk (ts:List Addr) (_:H o=⇑(.lst (ts.map V.ref))) (_:N o) (_:↑ts=n) (_:∀ (i:Nat) (t:Addr),ts[i]?=⇑t->∃ (r q:Addr) (es:List Int),rows[i]?=⇑es/\H t=⇑(.tup [↥r,↥q])/\(N r/\r≠o)/\(N q/\q≠o)/\bw H ↥r (aC es)/\bW H q (cF (sh (i:Nat)))):wJ N H o rows sh n
def wJ.fr{N N':Addr->Prop}{H H':Hp}{rows:cJ}{sh:Int->List Int}{n:Nat}(h:wJ N H o rows sh n)(k:∀ a xs,H a=⇑(.lst xs)->N a->H' a=⇑(.lst xs)/\N' a)(t:∀ a xs,H a=⇑(.tup xs)->H' a=⇑(.tup xs)):wJ N' H' o rows sh n:=by
 let⟨ts,h1,no,l1,g⟩:=h;refine⟨ts,(k _ _ h1 no).1,(k _ _ h1 no).2,l1,λi t' e=>?_⟩;let⟨r,q,es,e1,e2,nr,nq,I,R⟩:=g i t' e;let⟨a,vs,ea,ha,_⟩:=id I;cases ea;let⟨as,hq,_⟩:=id R;exact⟨r,q,es,e1,t _ _ e2,⟨(k _ _ ha nr.1).2,nr.2⟩,⟨(k _ _ hq nq.1).2,nq.2⟩,I.fr (λxs e=>(k _ _ e nr.1).1) t,R.two (λxs e=>(k _ _ e nq.1).1) t⟩
def wJ.eqv{N N':Addr->Prop}{H:Hp}{rows:cJ}{sh:Int->List Int}{n:Nat}(h:wJ N H o rows sh n)(g:wJ N' H o' rows sh n):Eqv H 5 ↥o ↥o':=by
 let⟨ts,h1,_,l1,z1⟩:=h;let⟨us,h2,_,l2,z2⟩:=g;refine .inr ⟨true,o,o',Z,h1,h2,by rw[cB,cB];lia,λi u v eu ev=>?_⟩;rw[mY]at eu ev;let⟨a,ea,rfl⟩:=Option.map_eq_some_iff.mp eu;let⟨b,eb,rfl⟩:=Option.map_eq_some_iff.mp ev;let⟨r,q,es,e1,e2,_,_,I,R⟩:=z1 i a ea;let⟨r',q',tV,e1',e2',_,_,I',R'⟩:=z2 i b eb;rw[e1]at e1';cases e1';refine .inr ⟨false,a,b,Z,e2,e2',rfl,λi u v eu ev=>?_⟩
 match i,eu,ev with
 | 0,eu,ev=>cases eu;cases ev;exact I.eqv 0 I'
 | 1,eu,ev=>cases eu;cases ev;exact R.eqv R' 0
class inductive Dr(C CS CW CB:Addr)
 | mk (U:Addr->Prop) (x:Addr) (pe:gS) (aB:gW) (aK:gD) (nW n:Nat) (bV:Vl) (rows:cJ) (sh:Int->List Int) (_:vs=[↥x]) (_:m7 C CS CW CB U H x pe aB aK nW bV) (_:pe.getLast?=⇑rows) (_:↑pe<=900) (_:Gd n rows sh) (_:∀ (o:Addr) (H':Hp),wJ (λa=>H a=none) H' o rows sh ↑rows->aI H H'->Q ↥o H')
theorem EK:aF ["_law_house"] ["_law_house"] (az ny):=eO
theorem EL:‹(6,105,["_law_house"],(Dr C CS CW CB))›:=λD=>by
 refine eS D.Lk.F EK λcU A zn s0 H vs Q E hr h=>?_;let⟨U,x,pe,aB,aK,nW,n,bV,rows,sh,rfl,LB,hl,l2,g,k⟩:=h;let⟨S,SW,d,wl,shf,bl,kn,du,bk,dS,st,op,dw,sg,ow,pw,db,tb,ops,LU⟩:=id LB;have lo:=wz LU.L hl;have l40:=g.ln;refine⟨_,(au (aJ (gI (N:=["_law_sheet","_law_house"]) (jI (sc:=az ny) (NX:=["_law_house"]) (jx:=[none,some 0]) rfl rfl rfl nofun nofun rfl nofun rfl nofun) rfl (iF rfl D.T.jb (aa (fc (pv 0) D.aM D.Xu (qz D) hr bC) ah)) (λ_ _ _ _ _ _=>(bQ (i:=0) (show List.Nodup (["_law_sheet","_law_house"]:List Str) by decide +kernel))) (λ_ _ _ _ _ _=>fZ) (λ_ _ _ _ _ _=>(cH (aa (cA (pv 1) D.aM D.aa5 (AZ D) hr bC (aa (pv 0) ah)) (aa (cA (pv 1) D.aM D.MM (gz D) hr bC (aa (pv 0) ah)) ah))))))),?_⟩;refine⟨Y,x,d,Y,LU.L.hx,rfl,S,x,d,wl,shf,bl,kn,du,bk,dS,st,op,qO pe,ops,aB,rfl,LU.L,Y,by lia,by lia,λacc cP=>nB (lo:=0) (k:=((↑ops:Nat):Int).toNat) (λi σ H2=>∃ u:Option V,σ=[u,⇑↥x]/\wJ (λa=>H a=none) H2 acc rows sh i/\aI H H2) ⟨none,rfl,⟨[],af,cP,rfl,λi t e=>by simp at e⟩,ak cP _⟩ ?_ ?_⟩
 ·rintro i σ H2 hi ⟨u,rfl,V2,s2⟩;have il:i<↑rows:=by lia
  have iN:qM ↑rows (0+(i:Int)):=⟨by lia,by lia⟩;have wC:=LU.same s2;have ei:(0+(i:Int)).toNat=i:=by lia
  refine⟨Y,x,d,Y,wC.L.hx,rfl,Y,S,x,d,wl,shf,bl,kn,du,bk,dS,st,op,pe,ops,aB,rows,0+(i:Int),rfl,wC.L,hl,by lia,l2,iN,λes o7 r H3 I3 s3 fr=>?_⟩;rw[ei]at o7;have NT:=s2.trans s3;have NV:=LU.same NT;refine⟨Y,x,d,Y,NV.L.hx,rfl,Y,S,x,d,wl,shf,bl,kn,du,bk,dS,st,op,pe,ops,aB,rows,0+(i:Int),rfl,NV.L,hl,by lia,l2,iN,⟨sh,g.sn,λq H4 R4 s4 fq=>⟨oX,λt ht=>?_⟩⟩⟩;have s5:=ak ht (.tup [↥r,↥q]);have t5:(aN H4 t (.tup [↥r,↥q])) t=⇑(.tup [↥r,↥q]):=af;generalize aN H4 t (.tup [↥r,↥q])=H5 at s5 t5;have s25:=s3.trans (s4.trans s5);let⟨ts,h1,na,l1,z1⟩:=V2.fr (N':=λa=>H a=none) (λa xs e n=>⟨s25 _ _ e,n⟩) λa xs e=>s25 _ _ e;have s05:=s2.trans s25;let⟨ra,rv,er,XX,_⟩:=id I3;cases er;let⟨qa,hqa,_⟩:=id R4
  have YV:r≠acc:=λe=>by
   let⟨_,h0,_⟩:=V2;rw[e,h0]at fr;cases fr
  have nqa:q≠acc:=λe=>by
   let⟨_,h0,_⟩:=V2;rw[e,s3 _ _ h0]at fq;cases fq
  have kk:=aG acc H5 (.lst (ts.map V.ref++[↥t]));have tt:∀ a xs,H5 a=⇑(.tup xs)->(aN H5 acc (.lst (ts.map V.ref++[↥t]))) a=⇑(.tup xs):=λa xs e=>kk _ _ e (cK e h1);refine⟨_,h1,aQ (by rw[cB];lia),Y,⟨ts++[t],by rw[af,gE];rfl,na,by rw[cT,l1];rfl,λj t' e=>?_⟩,bH cP s05 kk⟩;have new:∀ (r' q':Addr),r'≠acc->q'≠acc->∀ {aP:List aS} {iW:Row},bw H5 ↥r' aP->bW H5 q' iW->bw (aN H5 acc (.lst (ts.map V.ref++[↥t]))) ↥r' aP/\bW (aN H5 acc (.lst (ts.map V.ref++[↥t]))) q' iW:=λr' q' n1 n2 _ _ I R=>⟨I.fr (λxs e=>kk _ _ e n1) tt,R.two (λxs e=>kk _ _ e n2) tt⟩;rcases Nat.lt_trichotomy j ↑ts with c|c|c
  ·rw[yP c]at e;let⟨r',q',tV,e1,e2,n1,n2,I,R⟩:=z1 j t' e;let⟨i5,r5⟩:=new r' q' n1.2 n2.2 I R;exact⟨r',q',tV,e1,tt _ _ e2,n1,n2,i5,r5⟩
  ·subst c;have et:t=t':=by simpa using e
   subst et;let⟨i5,r5⟩:=new r q YV nqa (I3.same (s4.trans s5)) (R4.same s5);rw[l1];exact⟨r,q,es,o7,tt _ _ t5,⟨aR s2 fr,YV⟩,⟨aR NT fq,nqa⟩,i5,by rw[Int.zero_add]at r5;exact r5⟩
  ·rw[List.getElem?_eq_none (by rw[cT,gV];lia)]at e;cases e
 ·rintro σ H2 ⟨u,rfl,V2,s2⟩;rw[lo,show (((↑rows:Nat):Int)).toNat=↑rows by lia]at V2;exact k acc H2 V2 s2
def qp.le{V:Addr->Prop}{H:Hp}{du:Addr}{n:Nat}(h:qp CT CD V H kn du n):qp CT CD V H kn du (n+1):=by
 let⟨dk,t,dd,u,g,ks,ds,a1,a2,a3,a4,v1,v2,v3,v4,m1,m2,m3,m4,m5,m6,kl,dl,kk,iv,ev⟩:=h;exact⟨dk,t,dd,u,g,ks,ds,a1,a2,a3,a4,v1,v2,v3,v4,m1,m2,m3,m4,m5,m6,by lia,by lia,kk,iv,ev⟩
abbrev mrW:List Nat:=(Str.ofString "more").cps.toList
class inductive Dt(C CS CW CB CT CD:Addr)
 | mk (U T:Addr->Prop) (x l c kn du:Addr) (pe:gS) (aB:gW) (aK:gD) (nW n m:Nat) (rows:cJ) (sh:Int->List Int) (_:vs=[↥l,↥x]) (_:eU H l c) (_:m7 C CS CW CB U H x pe aB aK nW ([],kn,du)) (_:qp CT CD T H kn du n) (_:∀ a,U a->¬ T a) (_:∀ a,U a\/T a->a≠l/\a≠c) (_:pe.getLast?=⇑rows) (_:↑pe<=800) (_:↑aB<=800) (_:n<=800) (_:nW<=800) (_:↑aK<=10000) (_:1<=↑rows) (_:Gd m rows sh) (_:∀ a∈sh 0,∃ (j:Nat) (q:Int × Nat),a=(j:Nat)/\aK[j]?=⇑q/\Hd q.1) (_:∀ (U':Addr->Prop) (H':Hp) (dh:gW) (more:gD) (Lx:Nat),↑dh=↑aB+1->↑more<=4->Lx<=nW+1->m7 C CS CW CB U' H' x (pe++[rows]) dh (aK++more) Lx ([],kn,du)->qp CT CD T H' kn du (n+1)->eU H' l c->Eu U U' (λa=>T a\/a=l) H H'->Q .fT H')
theorem wK:aF ["_law_src_here","_law_house","_law_way"] ["_law_src_here","_law_house"] (az rC):=eO
theorem EM:‹(8,106,["_law_src_here","_law_house"],(Dt C CS CW CB CT CD))›:=λD=>by
 refine eS D.Vi.F wK λcU A zn s0 H vs Q E hr h=>?_;let⟨U,T,x,l,c,kn,du,pe,aB,aK,nW,n,m,rows,sh,rfl,S,LB,ex,dj,dl,hl,l2,l3,n8,w8,i9,r1,gd,hin,k⟩:=h;have hu:=gT hr;have l40:=gd.ln;exists _,(aj (aZ (i:=2) wK.nd (aH D.C4 (iy D) hr (aa (pv 0) (aa ay ah)))) (au (bO (aV dY (pv 2) ay (bh _)) (au (aT (cA (pv 1) D.aM D.abp (zd D) hr bC (aa ay ah)))) (au (bO (aV dY (pv 2) ay (bh _)) (au (aT (cA (pv 1) D.aM D.abo (A5 D) hr bC (aa (bL ah) (aa (bL ah) ah))))) (au (aT (cA (pv 1) D.aM D.Td (qB D) hr bC (aa ay (aa bI ah))))))))));refine⟨Y,l,c,3,rfl,S,by decide,by decide,λv H1 v0 v1 S1 k1=>?_⟩;have K1:cz l H H1:=dD k1;let⟨ls,hls⟩:=S.lst;have t1:∀ a xs,H a=⇑(.tup xs)->H1 a=⇑(.tup xs):=λa xs e=>K1 _ _ e (cK e hls);have f1:Eu U U (λa=>T a\/a=l) H H1:=⟨λa z=>.inl z,λa ob e _ n=>K1 _ _ e λz=>n (.inr z),t1⟩;have L1:=LB.fr (λa ob e z=>K1 _ _ e (dl a (.inl z)).1) t1;have Y7:=ex.fr λa ob e z=>K1 _ _ e (dl a (.inr z)).1;let⟨S',Yd,d',YS,sh',bl',GX,JS,bk',dS',DA,HS,dw',sg',ow',pw',db',tb',JM,LU⟩:=id L1
 have src:∀ {U':Addr->Prop} {H2:Hp},Eu U U' T H1 H2->eU H2 l c/\Eu U U' (λa=>T a\/a=l) H H2:=λ{U' H2} f=>by
  refine⟨?_,f1.trans f.more λa z=>z.elim Y7.al λz=>by let⟨_,e⟩:=S1.lst;rw[z];exact⟨_,e⟩⟩;let⟨n,ns,i,d,r,e1,e2,h3⟩:=S1;exact⟨n,ns,i,d,r,f.2.1 _ _ e1 (λz=>(dl l (.inl z)).1 rfl) (λz=>(dl l (.inr z)).1 rfl),f.2.1 _ _ e2 (λz=>(dl c (.inl z)).2 rfl) (λz=>(dl c (.inr z)).2 rfl),h3⟩
 refine⟨Y,rfl,Y,cR (λ_=>?_) (λ_=>⟨Y,rfl,Y,cR (λ_=>?_) (λ_=>?_)⟩)⟩
 ·refine⟨Y,x,d',Y,LU.L.hx,rfl,U,T,x,kn,du,pe,aB,aK,nW,n,rows,0,sh,rfl,L1,Y7,dj,hl,by lia,l2,by lia,by lia,⟨by lia,by lia⟩,gd.sn,gd.sl 0 ∅ ∅,hin,λU' H2 dh v ll L2 Y8 f2=>?_⟩;exact k U' H2 dh [] nW ll (by decide) ∅ (by rw[fV];exact L2) Y8 (src f2).1 (src f2).2
 ·refine⟨Y,x,d',Y,LU.L.hx,rfl,gQ,λa ha=>⟨gQ,λb hb=>?_⟩⟩;have s2:=ak ha (.lst []);have a2:(aN H1 a (.lst [])) a=⇑(.lst []):=af;generalize aN H1 a (.lst [])=H2 at s2 a2 hb;have s3:=ak hb (.lst []);have b3:(aN H2 b (.lst [])) b=⇑(.lst []):=af;have nab:=aA a2 hb;generalize aN H2 b (.lst [])=H3 at s3 b3;have NT:=s2.trans s3
  have no:∀ {a:Addr},H1 a=none->¬ U a/\¬ T a:=λ{a} f=>by
   refine⟨λz=>?_,λz=>?_⟩
   ·let⟨ob,e⟩:=L1.al z;rw[f]at e;cases e
   ·let⟨ob,e⟩:=Y7.al z;rw[f]at e;cases e
  refine⟨U,T,x,a,b,kn,du,pe,aB,aK,nW,n,rows,rfl,L1.same NT,Y7.fr (λa ob e _=>NT _ _ e),dj,s3 _ _ a2,b3,nab,no ha,no (aR s2 hb),hl,by lia,by lia,by lia,by lia,λU' H4 dh v ll L4 ex4 f4=>?_⟩;have f14:Eu U U' T H1 H4:=((AV.same NT).t).trans f4 λa z=>by let⟨ob,e⟩:=Y7.al z;exact⟨ob,NT _ _ e⟩
  exact k U' H4 dh [] nW ll (by decide) ∅ (by rw[fV];exact L4) ex4 (src f14).1 (src f14).2
 ·refine⟨Y,x,d',Y,LU.L.hx,rfl,U,x,pe,aB,aK,nW,_,2,mrW,rows,congrArg (λy=>[V.ref x,V.int 2,V.str y]) (qc _).symm,L1,⟨by decide,by decide⟩,nofun,by lia,by lia,hl,by lia,by lia,by lia,λU' q H2 L2 f2 _=>?_⟩;have f12:Eu U U' T H1 H2:=f2.t;exact k U' H2 _ (qo 2 mrW) _ (by rw[cT];rfl) (by rw[tF];decide +kernel) (fK _) L2 (Y7.fr λa ob e z=>f2.2.1 _ _ e λy=>dj _ y z).le (src f12).1 (src f12).2
def Q3{H:Hp}{a b:Addr}{L:List Int}(n:Nat)(h1:H a=⇑(.lst (L.map V.int)))(h2:H b=⇑(.lst (L.map V.int))):Eqv H (n+2) ↥a ↥b:=by
 refine .inr ⟨true,a,b,Z,h1,h2,rfl,λi u v eu ev=>?_⟩;rw[eu]at ev;cases ev;rw[mY]at eu;let⟨x,_,rfl⟩:=Option.map_eq_some_iff.mp eu;exact Eqv.int x
def Bq.Yw{rows:cJ}(h:Bq rows)(s:Int):¬ Reach (gO rows) s s:=by
 let⟨rk,_,hd⟩:=h
 have z:∀ y,Reach (gO rows) s y->rk y<rk s:=λy hy=>by
  induction hy with
  | one e=>exact hd _ _ e
  | step _ e ih=>exact Nat.lt_trans (hd _ _ e) ih
 exact λq=>Nat.lt_irrefl _ (z s q)
def bw.keep{H H':Hp}{a q:Addr}{aP:List aS}{xs:List V}(hq:H q=⇑(.lst xs))(n:a≠q)(k:cz q H H'):bw H ↥a aP->bw H' ↥a aP:=by
 rintro⟨b,vs,e,h,t⟩;cases e;exact⟨a,vs,rfl,k a _ h n,t.mono λ_ _=>cS.keep hq k⟩
def LD.At.tup{H:Hp}{t:Addr}{dd:LD}(h:dd.At H t):∃ vs,H t=⇑(.tup vs)/\qJ vs 1=⇑(.int dd.sh):=by
 cases dd with
 | put=>exact⟨_,h.1,rfl⟩
 | _=>exact⟨_,h,rfl⟩
def LD.At.kept{H H':Hp}{t:Addr}{dd:LD}(h:dd.At H t)(tp:∀ a xs,H a=⇑(.tup xs)->H' a=⇑(.tup xs))(kr:∀ s p r row,dd=.put s p r row->∀ xs,H r=⇑(.lst xs)->H' r=⇑(.lst xs)):dd.At H' t:=by
 cases dd with
 | put s p r row =>
  let⟨h1,as,ha,pa⟩:=h;exact⟨tp _ _ h1,as,kr _ _ _ _ rfl _ ha,pa.tups tp⟩
 | _=>exact tp _ _ h
theorem Gd.up{n m:Nat}{rows:cJ}{sh:Int->List Int}(h:Gd n rows sh)(l:n<=m):Gd m rows sh:=⟨h.sn,λx x0 x1 a ha=>by have:=h.Yp x x0 x1 a ha;lia,h.sl,h.es,λes he e hm=>(h.en es he e hm).imp (λz=>by lia) id,h.ln⟩
def LD.Ok.up{n k m:Nat}{sh:Int->List Int}{dd:LD}(h:dd.Ok n m sh)(l:n<=k):dd.Ok k m sh:=by
 cases dd with
 | put=>exact⟨h.1,h.2.1,h.2.2.1,λq hq=>by have:=h.2.2.2 q hq;lia⟩
 | _=>exact h
def Yx{rows:cJ}{sh sg:Int->List Int}{k:Int}{es:List Int}(R:Bq (rows.set k.toNat es))(sd:gf (rows.set k.toNat es))(S:kF rows sh)(S':kF (rows.set k.toNat es) sg)(k0:0<=k):∀ x:Int,0<=x->x<↑rows->x≠k->¬ Reach (gO (rows.set k.toNat es)) x k->sg x=sh x:=by
 let⟨rk,rb,dn⟩:=R
 have key:∀ (m:Nat) (x:Int),rk x<m->0<=x->x<↑rows->x≠k->¬ Reach (gO (rows.set k.toNat es)) x k->sg x=sh x:=by
  intro m
  induction m with
  | zero=>intro x h;lia
  | succ m ih =>
   intro x hx x0 x1 nk nr;have he:rows[x.toNat]?=⇑rows[x.toNat]:=tK ∅;have CK:(rows.set k.toNat es)[x.toNat]?=⇑rows[x.toNat]:=by rw[List.getElem?_set_ne (λz=>nk ∅)];exact he
   rw[S x _ x0 he,S' x _ x0 CK];refine nG λy hy=>?_;have n:gO (rows.set k.toNat es) x y:=⟨x0,_,CK,hy⟩;let⟨y0,y1⟩:=sd.Bp n;rw[List.length_set]at y1;have:=dn _ _ n;exact ih y ∅ y0 y1 (λz=>nr (by subst z;exact .one n)) λz=>nr ((Reach.one n).trans z)
 exact λx=>key (rk x+1) x (Nat.lt_succ_self _)
def UC{n m:Nat}(h:m<=40):Good n (e0 m):=by
 refine⟨λes he e hm=>?_,QZ m,by rw[List.length_replicate];exact h,λ_=>0,λx es _ he=>?_,λ_ _ _=>(by decide:(0:Int)<=200)⟩
 ·rw[yl he]at hm;cases hm
 ·rw[yl (nJ he)];rfl
structure JX(C CS CW CB CT CD:Addr)(N T U W:Addr->Prop)(H:Hp)(l c w x kn du:Addr)(pe:gS)(rows rq:cJ)(aB:gW)(pB aK:gD)(nW n:Nat):Prop where
 src:eU H l c
 EA:m7 C CS CW CB U H x pe aB aK nW ([],kn,du)
 ex:qp CT CD T H kn du n
 lst:pe.getLast?=⇑rows
 wo:∃ pq,Wo W H w pB pq rq
 du:∀ a,U a->¬ W a/\¬ T a/\a≠l/\a≠c
 dw:∀ a,W a->¬ T a/\a≠l/\a≠c
 dt:∀ a,T a->a≠l/\a≠c
 nn:∀ a,N a->(∃ ob,H a=⇑ob)/\¬ U a/\¬ W a/\¬ T a/\a≠l
 pre:∃ more,aK=pB++more
def Y9(N:Addr->Prop)(H H':Hp):Prop:=(∀ a ob,H a=⇑ob->N a->H' a=⇑ob)/\∀ a xs,H a=⇑(.tup xs)->H' a=⇑(.tup xs)
theorem wJ.kp{N:Addr->Prop}{H H':Hp}{rows:cJ}{sh:Int->List Int}{n:Nat}(h:wJ N H o rows sh n)(k:Y9 N H H'):wJ N H' o rows sh n:=h.fr (λa xs e z=>⟨k.1 _ _ e z,z⟩) k.2
def JX.mv{N T U W:Addr->Prop}{H:Hp}{c w x du:Addr}{pe:gS}{rows rq:cJ}{aB:gW}{pB aK:gD}{nW n:Nat}{H':Hp}(h:JX C CS CW CB CT CD N T U W H l c w x kn du pe rows rq aB pB aK nW n)(k:cz l H H')(s:eU H' l c):JX C CS CW CB CT CD N T U W H' l c w x kn du pe rows rq aB pB aK nW n/\Y9 N H H':=by
 let⟨ls,hl⟩:=h.src.lst;have t:∀ a xs,H a=⇑(.tup xs)->H' a=⇑(.tup xs):=λa xs e=>k _ _ e (cK e hl);let⟨pq,wo⟩:=h.wo;refine⟨⟨s,h.EA.fr (λa ob e z=>k _ _ e (h.du a z).2.2.1) t,h.ex.fr (λa ob e z=>k _ _ e (h.dt a z).1),h.lst,⟨pq,wo.fr (λa ob e z=>k _ _ e (h.dw a z).2.1) t⟩,h.du,h.dw,h.dt,λa z=>?_,h.pre⟩,λa ob e z=>k _ _ e (h.nn a z).2.2.2.2,t⟩;let⟨⟨ob,e⟩,r⟩:=h.nn a z;exact⟨⟨ob,k _ _ e r.2.2.2⟩,r⟩
theorem JX.same{N T U W:Addr->Prop}{H:Hp}{c w x du:Addr}{pe:gS}{rows rq:cJ}{aB:gW}{pB aK:gD}{nW n:Nat}{H':Hp}(h:JX C CS CW CB CT CD N T U W H l c w x kn du pe rows rq aB pB aK nW n)(s:aI H H'):JX C CS CW CB CT CD N T U W H' l c w x kn du pe rows rq aB pB aK nW n/\Y9 N H H':=h.mv (λa o e _=>s a o e) (h.src.same s)
def JX.new{N T U W:Addr->Prop}{H:Hp}{c w x du:Addr}{pe:gS}{rows rq:cJ}{aB:gW}{pB aK:gD}{nW n:Nat}{a:Addr}(h:JX C CS CW CB CT CD N T U W H l c w x kn du pe rows rq aB pB aK nW n)(f:H a=none):¬ U a/\¬ W a/\¬ T a/\a≠l/\a≠c/\¬ N a:=by
 have no:∀ {P:Prop},(P->∃ ob,H a=⇑ob)->¬ P:=λg z=>by
  let⟨ob,e⟩:=g z;rw[f]at e;cases e
 let⟨pq,wo⟩:=h.wo;have q:=h.src.ne f;exact⟨no h.EA.al,no wo.al,no h.ex.al,q.1.symm,q.2.symm,no λz=>(h.nn a z).1⟩
def JX.go{N T U W:Addr->Prop}{H:Hp}{c w x du:Addr}{pe:gS}{rows rq:cJ}{aB:gW}{pB aK:gD}{nW n:Nat}{U':Addr->Prop}{H':Hp}{Rp:gS}{rows':cJ}{dh:gW}{Yy:gD}{Lx n':Nat}(h:JX C CS CW CB CT CD N T U W H l c w x kn du pe rows rq aB pB aK nW n)(L':m7 C CS CW CB U' H' x Rp dh Yy Lx ([],kn,du))(ex':qp CT CD T H' kn du n')(s:eU H' l c)(hl:Rp.getLast?=⇑rows')(pr:∃ more,Yy=pB++more)(f:Eu U U' (λa=>T a\/a=l) H H'):JX C CS CW CB CT CD N T U' W H' l c w x kn du Rp rows' rq dh pB Yy Lx n'/\Y9 N H H':=by
 let⟨pq,wo⟩:=h.wo;refine⟨⟨s,L',ex',hl,⟨pq,wo.fr (λa ob e z=>f.2.1 _ _ e (λy=>(h.du a y).1 z) λy=>y.elim (h.dw a z).1 (h.dw a z).2.1) f.2.2⟩,λa z=>?_,h.dw,h.dt,λa z=>?_,pr⟩,λa ob e z=>f.2.1 _ _ e (h.nn a z).2.1 λy=>y.elim (h.nn a z).2.2.2.1 (h.nn a z).2.2.2.2,f.2.2⟩
 ·rcases f.1 a z with y|y
  ·exact h.du a y
  ·let⟨_,q1,q2,q3,q4,_⟩:=h.new y;exact⟨q1,q2,q3,q4⟩
 ·let⟨⟨ob,e⟩,r1,r2,r3,r4⟩:=h.nn a z;refine⟨⟨ob,f.2.1 _ _ e r1 λy=>y.elim r3 r4⟩,λy=>?_,r2,r3,r4⟩;rcases f.1 a y with q|q
  ·exact r1 q
  ·rw[e]at q;cases q
def JX.put{N T U W:Addr->Prop}{H:Hp}{c w x du:Addr}{pe:gS}{rows rq:cJ}{aB:gW}{pB aK:gD}{nW n:Nat}{W':Addr->Prop}{rw q:Addr}{pq:gS}{rq':cJ}(h:JX C CS CW CB CT CD N T U W H l c w x kn du pe rows rq aB pB aK nW n)(wu:Lv W' H w ik rw ps vl pB pq rq)(rv:Nn W' ik ps H q rq')(d1:∀ a,W' a->¬ U a/\¬ T a/\a≠l/\a≠c/\¬ N a):JX C CS CW CB CT CD N T U W' (aN H w (.dK (qR ik q ps vl))) l c w x kn du pe rows rq' aB pB aK nW n/\Y9 N H (aN H w (.dK (qR ik q ps vl))):=by
 have k:=aG w H (.dK (qR ik q ps vl));have w1:(aN H w (.dK (qR ik q ps vl))) w=⇑(.dK (qR ik q ps vl)):=af;generalize aN H w (.dK (qR ik q ps vl))=H' at k w1;have nw:∀ {a:Addr} {o:HO},H a=⇑o->(∀ kvs,o≠.dK kvs)->a≠w:=λ{a o} e n z=>by rw[z,wu.hw]at e;cases e;exact n _ rfl
 have tp:∀ a xs,H a=⇑(.tup xs)->H' a=⇑(.tup xs):=λa xs e=>k _ _ e (nw e λ_ z=>by cases z);have ls:∀ a xs,H a=⇑(.lst xs)->H' a=⇑(.lst xs):=λa xs e=>k _ _ e (nw e λ_ z=>by cases z);have dW:=d1 w wu.ww;have ne:∀ {P:Addr->Prop} {a:Addr},P a->¬ P w->a≠w:=λz n e=>n (by rw[← e];exact z);let⟨Vz,hp,al⟩:=wu.hp;refine⟨⟨?_,h.EA.fr (λa ob e z=>k _ _ e (ne z dW.1)) tp,h.ex.fr (λa ob e z=>k _ _ e (ne z dW.2.1)),h.lst,⟨pq,ik,q,ps,vl,wu.ww,wu.wi,wu.wp,wu.wv,λa z=>?_,w1,wu.hi.two (λxs e=>ls _ _ e) tp,rv.fr (λ_ z=>z) (λa xs e _ _ _=>ls a xs e),⟨Vz,ls _ _ hp,al⟩,wu.ne⟩,λa z=>⟨λy=>(d1 a y).1 z,(h.du a z).2⟩,λa z=>⟨(d1 a z).2.1,(d1 a z).2.2.1,(d1 a z).2.2.2.1⟩,h.dt,λa z=>?_,h.pre⟩,λa ob e z=>k _ _ e (ne z dW.2.2.2.2),tp⟩
 ·let⟨n,ns,i,d,r,e1,e2,h3⟩:=h.src;exact⟨n,ns,i,d,r,ls _ _ e1,ls _ _ e2,h3⟩
 ·by_cases e:a=w
  ·rw[e];exact⟨_,w1⟩
  ·let⟨ob,e2⟩:=wu.al a z;exact⟨ob,k _ _ e2 e⟩
 ·let⟨⟨ob,e⟩,r1,_,r3,r4⟩:=h.nn a z;exact⟨⟨ob,k _ _ e (ne z dW.2.2.2.2)⟩,r1,λy=>(d1 a y).2.2.2.2 z,r3,r4⟩
inductive Rz(C CS CW CB CT CD:Addr)(N:Addr->Prop)(l c w x:Addr)(rows:cJ)(m j:Nat)(H:Hp):Prop
 | mk (T U W:Addr->Prop) (kn du:Addr) (pe:gS) (aB:gW) (pB aK:gD) (nW n:Nat) (_:JX C CS CW CB CT CD N T U W H l c w x kn du pe rows rows aB pB aK nW n) (_:↑pB=m) (_:∀ q∈pB,Hd q.1) (_:m<=18) (_:↑pe<=20+j) (_:↑aB<=20+j) (_:n<=20+j) (_:nW<=20+j) (_:↑aK<=100+4*j)
def Rz.mv{c w x:Addr}{N:Addr->Prop}{rows:cJ}{m j:Nat}{H H':Hp}(h:Rz C CS CW CB CT CD N l c w x rows m j H)(k:cz l H H')(s:eU H' l c):Rz C CS CW CB CT CD N l c w x rows m j H'/\Y9 N H H':=by
 let⟨T,U,W,kn,du,pe,aB,pB,aK,nW,n,St,im,hd,Q4,b1,b2,b3,b4,b5⟩:=h;let⟨St',k'⟩:=St.mv k s;exact⟨⟨T,U,W,kn,du,pe,aB,pB,aK,nW,n,St',im,hd,Q4,b1,b2,b3,b4,b5⟩,k'⟩
def Rz.src{c w x:Addr}{N:Addr->Prop}{rows:cJ}{m j:Nat}{H:Hp}(h:Rz C CS CW CB CT CD N l c w x rows m j H):eU H l c:=by
 let⟨T,U,W,kn,du,pe,aB,pB,aK,nW,n,St,im,hd,Q4,b1,b2,b3,b4,b5⟩:=h;exact St.src
def agu(C CS CW CB CT CD:Addr):TS:=λD σ H=>∃ (a l c w x o:Addr) (N:Addr->Prop) (rows:cJ) (sh:Int->List Int) (m j:Nat) (u4 u6 u7 u8 u9 Yz UD:Option V),σ=[⇑↥a,⇑↥l,⇑↥x,⇑↥w,u4,⇑↥o,u6,u7,u8,u9,Yz,UD]/\Rz C CS CW CB CT CD N l c w x rows m j H/\wJ N H o rows sh ↑rows/\Gd m rows sh/\2<=↑rows/\j<=30/\∀ H',Rz C CS CW CB CT CD N l c w x rows m (j+1) H'->wJ N H' o rows sh ↑rows->D.nx [⇑↥a,⇑↥l,⇑↥x,⇑↥w,u4,⇑↥o,u6,u7,u8,u9,Yz,UD] H'
noncomputable def BZ (P:Prop):Bool:=@decide P (Classical.propDecidable P)
theorem wL{P:Prop}:BZ P=true↔P:=@decide_eq_true_iff P (Classical.propDecidable P)
theorem qC:aF ["_law_script","_law_src_here","_law_house","_law_world_here","_law_k","_law_ahead","_law_deed_here","_law_rows","_law_items","_law_stirred","_law_behind","_law_sheet"] ["_law_script"] (az Mf):=eO
def all_mk:UT:=by
 intro P w K mg fa q;let⟨eY,ic,ie,oK,oM,bJ,X,G,hfa,KW,j7,oN,OG,uT,sD,oO,KY,sE,OH,xu,zY,OI,Cy,Cz,vI,fQ,xx,zZ,Fy,Fz,q0,q1,q2,q3,q4,q5,q6,q7,q8,q9,CA,q11,q12,q13,q14,q15,q16,q17,q18,q19,q20,q21,q22,q23,q24,q25,q26,q27,q28,q29,q30,q31,q32,q33,q34,q35,q36,q37,q38,q39,q40,q41,q42,q43,q44,q45,q46,q47,q48,q49,q50,q51,q52,q53,q54,q55,q56,q57,q58,q59,q60,q61,q62,q63,q64,q65,q66,q67,q68,q69,q70,q71,q72,q73,q74,q75,q76,q77,q78,q79,q80,q81,q82,q83,q84,q85,q86,q87,q88,q89,q90,q91,q92,q93,q94,q95,q96,q97,q98,q99,Z1,Z2,Z3,Z4,Z5,Z6,Z7,Z8,z0,z1,z2,z3,z4,z5,z6,z7,z8,z9,z10,z11,z12,z13,tX,tY,FA,vJ,tZ⟩:=q;let⟨al,ll,cl,kl⟩:=Z8;have e:=hfa.symm.trans (mg_of X G al);cases e;obtain⟨fd,F,bF⟩:∃ fd,RZ K "law" "law" Mf fa fd/\∀ (s:Shared) (v:Value),BindsTo s fd ⟨[v],[]⟩ [("_law_script",v)]:=⟨_,IQ (st:=Mf) ll cl kl,λs v=>.of_eq rfl⟩;let⟨g0,Nu⟩:=q0.d (ps:=["_law_script"]) X G;let⟨g1,JY⟩:=q1.d (ps:=["_law_src_here","_law_base"]) X G;let⟨g2,Hl⟩:=q2.d (ps:=["_law_found"]) X G;let⟨g3,JZ⟩:=q3.d (ps:=["_law_found","_law_due"]) X G;let⟨g4,YA⟩:=q4.d (ps:=["row"]) X G;let⟨g5,VN⟩:=q5.d (ps:=["row"]) X G;let⟨g6,B0⟩:=q6.d (ps:=["row","start","stop"]) X G;let⟨g7,UE⟩:=q7.d (ps:=["row","start","stop"]) X G;let⟨g8,acu⟩:=q8.d (ps:=["row","start","stop"]) X G;let⟨g9,qD⟩:=q9.d (ps:=["self"]);let⟨g10,J1⟩:=CA.d (ps:=["row"]) X G;let⟨g11,Q5⟩:=q11.d (ps:=["items"]) X G;let⟨g12,YB⟩:=q12.d (ps:=["rows","sheets"]) X G;let⟨g13,EN⟩:=q13.d (ps:=["rows","start","goal"]) X G;let⟨g14,acv⟩:=q14.d (ps:=["rows","sheet"]) X G;let⟨g15,EO⟩:=q15.d (ps:=["item","weights"]) X G;let⟨g16,Bd⟩:=q16.d (ps:=["rows","sheets"]) X G;let⟨g17,Nv⟩:=q17.d (ps:=["item","views"]) X G;let⟨g18,ER⟩:=q18.d (ps:=["rows","sheets"]) X G;let⟨g19,Q6⟩:=q19.d (ps:=["rows","sheet"]) X G;let⟨g20,Q7⟩:=q20.d (ps:=["one","other"]) X G;let⟨g21,ES⟩:=q21.d (ps:=["items"]) X G;let⟨g22,YC⟩:=q22.d (ps:=["row"]) X G;let⟨g23,YD⟩:=q23.d (ps:=["items","views"]) X G;let⟨g24,J2⟩:=q24.d (ps:=["items","views","place","others"]) X G;let⟨g25,J3⟩:=q25.d (ps:=["rows","sheet","place","items"]) X G;let⟨g26,UG⟩:=q26.d (ps:=["items","views","start","stop"]) X G;let⟨g27,J4⟩:=q27.d (ps:=["rows","sheet","start","stop"]) X G;let⟨g28,ET⟩:=q28.d (ps:=["rows","sheet","start","stop","to"]) X G;let⟨g29,EU⟩:=q29.d (ps:=["rows","sheet"]) X G;let⟨g30,J5⟩:=q30.d (ps:=["row"]) X G;let⟨g31,Ho⟩:=q31.d (ps:=["deed"]) X G;let⟨g32,Q8⟩:=q32.d (ps:=["state","sheet","items"]) X G;let⟨g33,qE⟩:=q33.d (ps:=["self"]);let⟨g34,J6⟩:=q34.d (ps:=["self"]);let⟨g35,Hq⟩:=q35.d (ps:=["self"]);let⟨g36,Hr⟩:=q36.d (ps:=["self","changes"]);let⟨g37,vo⟩:=q37.d (ps:=["self","sheet"]);let⟨g38,tQ⟩:=q38.d (ps:=["self","moment"]);let⟨g39,yo⟩:=q39.d (ps:=["self","moment"]);let⟨g40,Hs⟩:=q40.d (ps:=["self"]);let⟨g41,J7⟩:=q41.d (ps:=["self","sheet"]);let⟨g42,r9⟩:=q42.d (ps:=["self"]);let⟨g43,sf⟩:=q43.d (ps:=["self"]);let⟨g44,sj⟩:=q44.d (ps:=["self"]);let⟨g45,J8⟩:=q45.d (ps:=["self"]);let⟨g46,J9⟩:=q46.d (ps:=["self","hand","text"]);let⟨g47,Ht⟩:=q47.d (ps:=["self","row"]);let⟨g48,EV⟩:=q48.d (ps:=["rows","sheet"]) X G;let⟨g49,nH⟩:=q49.d (ps:=["self"]);let⟨g50,Be⟩:=q50.d (ps:=["self","deed","changes"]);let⟨g51,zg⟩:=q51.d (ps:=["self","deed","sheet","items"]);let⟨g52,B3⟩:=q52.d (ps:=["self"]);let⟨g53,Bf⟩:=q53.d (ps:=["self","deed","items"]);let⟨g54,Bg⟩:=q54.d (ps:=["self"]);let⟨g55,EW⟩:=q55.d (ps:=["self"]);let⟨g56,tR⟩:=q56.d (ps:=["self","row"]);let⟨g57,B4⟩:=q57.d (ps:=["self","hand","text"]);let⟨g58,EX⟩:=q58.d (ps:=["self","sheet","place","row"]);let⟨g59,Bh⟩:=q59.d (ps:=["self","sheet"]);let⟨g60,EY⟩:=q60.d (ps:=["self","sheet","start","stop"]);let⟨g61,Bj⟩:=q61.d (ps:=["self","target","place","source","start","stop"]);let⟨g62,EZ⟩:=q62.d (ps:=["self","sheet"]);let⟨g63,zh⟩:=q63.d (ps:=["self","target","place","source"]);let⟨g64,E1⟩:=q64.d (ps:=["self","sheet"]);let⟨g65,Ca⟩:=q65.d (ps:=["self","sheet","start","stop","to"]);let⟨g66,zj⟩:=q66.d (ps:=["holes","start"]) X G;let⟨g67,UH⟩:=q67.d (ps:=["holes","address"]) X G;let⟨g68,E2⟩:=q68.d (ps:=["self","address"]);let⟨g69,tS⟩:=q69.d (ps:=["self","address"]);let⟨g70,Ka⟩:=q70.d (ps:=["self","address"]);let⟨g71,zk⟩:=q71.d (ps:=["self","row","veil"]);let⟨g72,Cb⟩:=q72.d (ps:=["self","sheet"]);let⟨g73,UI⟩:=q73.d (ps:=["row"]) X G;let⟨g74,Kc⟩:=q74.d (ps:=["start","stop","holes"]) X G;let⟨g75,Rc⟩:=q75.d (ps:=["row","other"]) X G;let⟨g76,Kd⟩:=q76.d (ps:=["self"]);let⟨g77,Ke⟩:=q77.d (ps:=["self","address"]);let⟨g78,zm⟩:=q78.d (ps:=["self"]);let⟨g79,vp⟩:=q79.d (ps:=["self","row"]);let⟨g80,Ny⟩:=q80.d (ps:=["self","one","other"]);let⟨g81,Nz⟩:=q81.d (ps:=["self","hand"]);let⟨g82,NB⟩:=q82.d (ps:=["self","hand","many"]);let⟨g83,E3⟩:=q83.d (ps:=["self","one","other"]);let⟨g84,Cc⟩:=q84.d (ps:=["self","sheet"]);let⟨g85,Hu⟩:=q85.d (ps:=[]) X G;let⟨g86,Kf⟩:=q86.d (ps:=["_law_world_here","_law_rows"]) X G;let⟨g87,Kg⟩:=q87.d (ps:=["_law_rows","_law_sheet","_law_entries"]) X G;let⟨g88,Hv⟩:=q88.d (ps:=["_law_row"]) X G;let⟨g89,Kh⟩:=q89.d (ps:=["_law_rows","_law_sheet"]) X G;let⟨g90,Cd⟩:=q90.d (ps:=["_law_rows","_law_sheet"]) X G;let⟨g91,E4⟩:=q91.d (ps:=["_law_rows","_law_entry"]) X G;let⟨g92,NC⟩:=q92.d (ps:=["_law_rows","_law_sheet","_law_place","_law_new"]) X G;let⟨g93,ND⟩:=q93.d (ps:=["_law_rows","_law_sheet","_law_start","_law_stop"]) X G;let⟨g94,Ce⟩:=q94.d (ps:=["_law_rows","_law_sheet"]) X G;let⟨g95,Bk⟩:=q95.d (ps:=["_law_entries"]) X G;let⟨g96,Kl⟩:=q96.d (ps:=["_law_rows","_law_sheet"]) X G;let⟨g97,Hw⟩:=q97.d (ps:=["_law_world_here","_law_deed_here"]) X G;let⟨g98,Cf⟩:=q98.d (ps:=["self","sheet","moment"]);let⟨g99,Km⟩:=q99.d (ps:=["_law_house","_law_deed_here"]) X G;let⟨agv,Cg⟩:=Z1.d (ps:=["_law_src_here","_law_world_here"]) X G;let⟨agw,Ci⟩:=Z2.d (ps:=["_law_src_here","_law_sheet","_law_room"]) X G;let⟨agx,Kn⟩:=Z3.d (ps:=["_law_src_here","_law_world_here"]) X G;let⟨agy,YE⟩:=Z4.d (ps:=["rows","sheet"]) X G;let⟨agz,Hx⟩:=Z5.d (ps:=["_law_src_here","_law_world_here","_law_house"]) X G;let⟨agA,Hy⟩:=Z6.d (ps:=["_law_house"]) X G;let⟨agB,Hz⟩:=Z7.d (ps:=["_law_src_here","_law_house"]) X G;have T:Nms mg:=⟨PySem.W.mg_none_of X G z0,wQ X G z1,wQ X G z2,wQ X G z3,wQ X G z4,wQ X G z5,wQ X G z6,wQ X G z7,wQ X G z8,wQ X G z9,wQ X G z10,wQ X G z11,wQ X G z12,wQ X G z13,λf e=>(VN.m).symm.trans e ▸ mg_of X G vJ,λf e=>(Q6.m).symm.trans e ▸ mg_of X G tZ⟩;have G_:Gbs mg:=⟨⟨_,mg_of X G tX⟩,⟨_,mg_of X G tY⟩,⟨_,mg_of X G FA⟩⟩;have cN:=KW.d X G qE.mt;have gU:=OG.d X G sj.mt;have qf:=KY.d X G qD.mt;have ue:=OH.d X G r9.mt;have vS:=OI.d X G sf.mt;have aM:=Cz.d X G nH.mt;obtain⟨aY,bf,D⟩:∃ aY bf,Ds K mg aY bf bJ eY ic ie oK oM:=⟨nth [_,_,_,_,_,_,_,_,_,_,_,_,_,_,_,_,_,_,_,_,_,_,_,_,_,_,_,_,_,_,_,_,_,_,_,_,_,_,_,_,_,_,_,_,_,_,_,_,_,_,_,_,_,_,_,_,_,_,_,_,_,_,_,_,_,_,_,_,_,_,_,_,_,_,_,_,_,_,_,_,_,_,_,_,_,_,_,_,_,_,_,_,_,_,_,_,_,_,_,_,_,_,_,_,_,_,_] 0,nth [g0,g1,g2,g3,g4,g5,g6,g7,g8,g9,g10,g11,g12,g13,g14,g15,g16,g17,g18,g19,g20,g21,g22,g23,g24,g25,g26,g27,g28,g29,g30,g31,g32,g33,g34,g35,g36,g37,g38,g39,g40,g41,g42,g43,g44,g45,g46,g47,g48,g49,g50,g51,g52,g53,g54,g55,g56,g57,g58,g59,g60,g61,g62,g63,g64,g65,g66,g67,g68,g69,g70,g71,g72,g73,g74,g75,g76,g77,g78,g79,g80,g81,g82,g83,g84,g85,g86,g87,g88,g89,g90,g91,g92,g93,g94,g95,g96,g97,g98,g99,agv,agw,agx,agy,agz,agA,agB] g0,T,G_,aM,cN,gU,qf,ue,vS,j7,oN,uT,sD,oO,sE,xu,zY,Cy,vI,fQ,xx,zZ,Fy,Fz,Nu,JY,Hl,JZ,YA,VN,B0,UE,acu,qD,J1,Q5,YB,EN,acv,EO,Bd,Nv,ER,Q6,Q7,ES,YC,YD,J2,J3,UG,J4,ET,EU,J5,Ho,Q8,qE,J6,Hq,Hr,vo,tQ,yo,Hs,J7,r9,sf,sj,J8,J9,Ht,EV,nH,Be,zg,B3,Bf,Bg,EW,tR,B4,EX,Bh,EY,Bj,EZ,zh,E1,Ca,zj,UH,E2,tS,Ka,zk,Cb,UI,Kc,Rc,Kd,Ke,zm,vp,Ny,Nz,NB,E3,Cc,Hu,Kf,Kg,Hv,Kh,Cd,E4,NC,ND,Ce,Bk,Kl,Hw,Cf,Km,Cg,Ci,Kn,YE,Hx,Hy,Hz⟩;refine⟨fd,bF,λzt _ _=>?_⟩;have NF:bq P w K mg zt cO 1 _ _ ["_law_script"] (UW K):=Jt D;have cI:bq P w K mg zt cO 1 _ _ Zd xC:=iy D;have wM:bq P w K mg zt cO 3 _ _ E9 (Dl bJ eY ic ie oK oM):=tP D;have HH:bq P w K mg zt cO 1 _ _ [] Lw:=Ez D;have jk:bq P w K mg zt cO 6 _ _ ["_law_found","_law_due"] (Ad 5):=yF D 5;have HL:bq P w K mg zt cO 8 _ _ Zg (LI bJ eY ic ie):=EJ D;have Ko:bq P w K mg zt cO 43 _ _ VP QV:=Hi D;have HN:bq P w K mg zt cO 45 _ _ Zf LF:=EG D;have Kp:bq P w K mg zt cO 43 _ _ YH QM:=Hg D;have Kq:bq P w K mg zt cO 7 _ _ ["_law_house","_law_deed_here"] (QS bJ eY ic ie):=Hh D;have Kr:bq P w K mg zt cO 1 _ _ zl6 Qy:=yM D;have Bm:bq P w K mg zt cO 1 _ _ ["_law_entries"] Ly:=zf D;have Cj:bq P w K mg zt cO 1 _ _ YH Dn:=rY D;have YF:bq P w K mg zt cO 3 _ _ YG LG:=QW D;have sr:bq P w K mg zt cO 6 _ _ ["_law_house"] (Dr bJ eY ic ie):=EL D;have HR:bq P w K mg zt cO 8 _ _ ["_law_src_here","_law_house"] (Dt bJ eY ic ie oK oM):=EM D;refine eS F qC λcU A zn s H vs Q E hr h=>?_;let⟨a,ns,rfl,hS,h63,k⟩:=h;have hu:=gT hr;refine⟨_,(aj (aZ (i:=1) qC.nd (aH D.dq0 NF hr (aa (pv 0) ah))) (aj (aZ (i:=2) qC.nd (oH D.aM.YN wM (hr.mono (by decide)) rfl D.aM.m D.aa0.b .nil bC)) (aj (aZ (i:=3) qC.nd (Og HH (hr.mono (by decide)) rfl D.Te.m D.Te.F.kp D.Te.b .nil bC)) (aj (aT (aH D.Vh HL hr (aa (pv 1) (aa (pv 3) (aa (pv 2) ah))))) (aj (dX PassesOwn.never rfl (iF rfl D.T.jb (aa (aH D.C4 cI hr (aa (pv 1) (aa ay ah))) ah)) (bQ (i:=4) qC.nd) (aj (aZ (i:=5) qC.nd (aH D.Lk sr hr (aa (pv 2) ah))) (aj (IZ (t':=agu bJ eY ic ie oK oM) (bO (aV dY (aH D.C4 cI hr (aa (pv 1) (aa ay ah))) ay (bh _)) (aj (aT (aH D.Vi HR hr (aa (pv 1) (aa (pv 2) ah)))) (au (bO (jd (jz (aH D.Xg jk hr (aa (aH D.Lk sr hr (aa (pv 2) ah)) (aa (pv 5) ah))))) (au (aJ ng)) br))) br) ?b1) (aj (aZ (i:=6) qC.nd (aH D.Vf Ko hr (aa (pv 1) (aa (pv 3) ah)))) (aj (aZ (i:=7) qC.nd (aH D.Xz Kr hr (aa (kq hu (pv 3) bI) (aa (aO aW (pv 6) ay) (aa (aH D.abu HN hr (aa (pv 3) (aa (pv 6) ah))) ah))))) (aj (bO (jd (jz (aH D.abt Kp hr (aa (pv 7) (aa (aO aW (pv 6) ay) ah))))) (au yr) br) (aj (lR hu (pv 3) bI (pv 7) rfl) (aj (aT (aH D.abv Kq hr (aa (pv 2) (aa (pv 6) ah)))) (aj (zw (N:=["_law_row"]) (i:=8) (jI (sc:=az Mf) (NX:=["_law_script","_law_src_here","_law_house","_law_world_here","_law_k","_law_ahead","_law_deed_here","_law_rows","_law_items","_law_stirred","_law_behind","_law_sheet"]) (jx:=[none]) rfl rfl rfl nofun nofun rfl nofun rfl nofun) rfl qC.nd rfl rfl (cu (pv 7)) (λ_ _ _ _ _ _=>(bQ (i:=0) (show List.Nodup (["_law_row"]:List Str) by decide +kernel))) (λ_ _ _ _ _ _=>fZ) (λ_ _ _ _ _ _=>(aH D.abr Bm hr (aa (pv 0) ah)))) (aj (zw (N:=["_law_sheet","_law_deed_here","_law_rows"]) (i:=9) (jI (sc:=az Mf) (NX:=["_law_script","_law_src_here","_law_house","_law_world_here","_law_k","_law_ahead","_law_deed_here","_law_rows","_law_items","_law_stirred","_law_behind","_law_sheet"]) (jx:=[none,some 6,some 7]) rfl rfl rfl nofun nofun rfl nofun rfl nofun) rfl qC.nd rfl rfl (iF rfl D.T.jb (aa (gp D.T.gg (pv 7)) ah)) (λ_ _ _ _ _ _=>(bQ (i:=0) (show List.Nodup (["_law_sheet","_law_deed_here","_law_rows"]:List Str) by decide +kernel))) (λ_ _ _ _ _ _=>vL (aV SJ (aO DO (pv 1) ay) (aH D.XA Cj hr (aa (pv 2) (aa (pv 0) ah))) rfl)) (λ_ _ _ _ _ _=>(pv 0))) (aj (bO (jd (jz (aH D.Xg jk hr (aa (aH D.Vg YF hr (aa (pv 8) (aa (aO aW (pv 6) ay) ah))) (aa (pv 9) ah))))) (au (aJ ng)) br) (aj (aZ (i:=10) qC.nd (aH D.Lk sr hr (aa (pv 2) ah))) (au (dX PassesOwn.never rfl (iF rfl D.T.jb (aa (gp D.T.gg (pv 7)) ah)) (bQ (i:=11) qC.nd) (aj (bO (PW.pt (kO (aV Cn (pv 11) (aO aW (pv 6) ay) (bh _)) (j6 (jd (jz (aH D.Xg jk hr (aa (aO aW (aO bu (pv 10) (pv 11)) ay) (aa (aO aW (aO bu (pv 5) (pv 11)) ay) ah)))))))) (au (aJ ng)) br) (aj (bO (PW.pt (kO (aV Cn (pv 11) (aO aW (pv 6) ay) (bh _)) (kO (aV vF (pv 11) (pv 9) rfl) (j6 (jd (jz (aH D.Xg jk hr (aa (aO aW (aO bu (pv 10) (pv 11)) ay) (aa (aO aW (aO bu (pv 5) (pv 11)) ay) ah))))))))) (au (aJ ng)) br) (au (bO (jd (jz (aH D.Xg jk hr (aa (aO aW (aO bu (pv 10) (pv 11)) ay) (aa (aO bu (pv 8) (pv 11)) ah))))) (au (aJ ng)) br)))))))))))))))))) (au (aJ ng))))))),?_⟩
 case b1 =>
  rintro D σ H ⟨a,l,c,w,x,o,N,rows,sh,m,j,u4,u6,u7,u8,u9,Yz,UD,rfl,I,V,g,r2,j30,k⟩;refine⟨Y,l,c,4,rfl,I.src,by decide,by decide,λv H1 v0 v1 S1 k1=>?_⟩;let⟨I1,K1⟩:=I.mv (dD k1) S1;have V1:=V.kp K1;let⟨T,U,W,kn,du,pe,aB,pB,aK,nW,n,St,im,hd,Q4,b1,b2,b3,b4,b5⟩:=I1;refine⟨rfl,Y,cR (λ_=>?_) (λ_=>k H1 ⟨T,U,W,kn,du,pe,aB,pB,aK,nW,n,St,im,hd,Q4,by lia,by lia,by lia,by lia,by lia⟩ V1)⟩;let⟨mr,em⟩:=St.pre;refine⟨Y,Y,U,T,x,l,c,kn,du,pe,aB,aK,nW,n,m,rows,sh,rfl,St.src,St.EA,St.ex,λa z=>(St.du a z).2.1,λa z=>z.elim (λz=>(St.du a z).2.2) (St.dt a),St.lst,by lia,by lia,by lia,by lia,by lia,by lia,g,(λy hy=>?_),λU' H2 dh more Lx ll lm lw L2 Y8 S2 f2=>?_⟩
  ·have yb:=g.Yp 0 (by decide) ∅ y hy;have hl:y.toNat<↑pB:=by lia
   exact⟨y.toNat,pB[y.toNat],by lia,by rw[em,yP hl];exact tK hl,hd _ (List.getElem_mem hl)⟩
  let⟨Rx,K2⟩:=St.go L2 Y8 S2 (rows':=rows) (by simp) ⟨mr++more,by rw[em,m8]⟩ f2;have V2:=V1.kp K2;have lp:↑(pe++[rows])=↑pe+1:=by rw[cT];rfl
  refine⟨Y,U',x,_,dh,_,Lx,m,_,rows,sh,rfl,Rx.EA,Rx.lst,by lia,g,λo2 H3 V3 s3=>?_⟩;let⟨Ry,K3⟩:=Rx.same s3;have V23:=V2.kp K3;refine⟨Y,E,rfl,V3.eqv V23,λH4 s4=>⟨true,rfl,eL ?_⟩⟩;let⟨E8,K4⟩:=Ry.same s4;exact k H4 ⟨T,U',W,kn,du,_,dh,pB,_,Lx,n+1,E8,im,hd,Q4,by lia,by lia,by lia,by lia,by rw[cT];lia⟩ (V23.kp K4)
 refine⟨Y,a,ns,rfl,hS,λl c H1 S1 s1 _ _=>?_⟩;intro x dx fx fdx _;refine⟨x,dx,rfl,af,λU T kn du H2 L2 ⟨Y8,tT⟩ fU k2=>⟨rfl,?_⟩⟩;have s2:=l9 fx fdx k2;have S2:=S1.same s2
 have fU':∀ a,U a->H1 a=none:=λa z=>by
  rcases fU a z with y|y
  ·rw[y];exact fx
  ·exact jr y
 refine⟨rfl,λW w H3 wo3 fW s3=>?_⟩
 have Ry:ze bJ eY ic ie H3 l c w x U W [[]] [] [[]] [] [] [] 0 ([],kn,du):=by
  refine⟨S2.same s3,L2.same s3,rfl,wo3,λa z=>⟨λy=>?_,?_⟩,λa z=>?_⟩
  ·let⟨ob,e⟩:=L2.al z;rw[fW a y]at e;cases e
  ·have n:=S1.ne (fU' a z);exact⟨n.1.symm,n.2.symm⟩
  ·have n:=S2.ne (fW a z);exact⟨n.1.symm,n.2.symm⟩
 have ex3:=Y8.fr λa ob e _=>s3 a ob e
 have nT:∀ a,T a->¬ U a/\¬ W a/\a≠l/\a≠c:=λa z=>by
  have n:=S1.ne (jr (tT a z).2.2);refine⟨(tT a z).1,λy=>?_,n.1.symm,n.2.symm⟩;let⟨ob,e⟩:=Y8.al z;rw[fW a y]at e;cases e
 refine⟨Y,Y,Y,l,c,w,x,U,W,(kn,du),rfl,Ry,λU4 W4 pe4 n aK ln4 H4 n2 n4 li lp4 ll4 E8 hd4 acw=>?_⟩;have oT:∀ a ob,H3 a=⇑ob->T a->H4 a=⇑ob/\¬ U4 a/\¬ W4 a:=λa ob e z=>acw a ob e (nT a z).1 (nT a z).2.1 (nT a z).2.2.1
 have dT4:∀ a,T a->¬ U4 a/\¬ W4 a:=λa z=>by
  let⟨ob,e⟩:=ex3.al z;exact (oT a ob e z).2
 have I4:Rz bJ eY ic ie oK oM (λ_=>False) l c w x (e0 n) ↑aK 0 H4:=⟨T,U4,W4,kn,du,pe4,ln4,aK,aK,2,0,⟨E8.src,E8.EA,ex3.fr λa ob e z=>(oT a ob e z).1,E8.lst,⟨_,E8.wo⟩,λa z=>⟨(E8.du a z).1,λy=>(dT4 a y).1 z,(E8.du a z).2⟩,λa z=>⟨λy=>(dT4 a y).2 z,E8.dw a z⟩,λa z=>(nT a z).2.2,λ_ z=>z.elim,⟨[],(fV _).symm⟩⟩,rfl,hd4,li,by lia,by lia,by lia,by lia,by lia⟩;refine⟨Y,l,c,11,rfl,E8.src,by decide,by decide,λv H5 v0 v1 S5 k5=>⟨v,rfl,by lia,by lia,?_⟩⟩;have l0:↑(e0 n)=n:=List.length_replicate;refine oF (lo:=0) (n:=v.toNat) (λj σ H6=>∃ (u4 u5 u6 u7 u8 u9 Yz UD:Option V) (rows:cJ),σ=[⇑↥a,⇑↥l,⇑↥x,⇑↥w,u4,u5,u6,u7,u8,u9,Yz,UD]/\Rz bJ eY ic ie oK oM (λ_=>False) l c w x rows ↑aK (2*j) H6/\Good ↑aK rows/\2<=↑rows/\↑rows<=4) ⟨none,none,none,none,none,none,none,none,e0 n,rfl,(I4.mv (dD k5) S5).1,UC ∅,by lia,by lia⟩ ?_ ?_
 ·rintro j σ H6 hj ⟨u4,u5,u6,u7,u8,u9,Yz,UD,rows,rfl,I6,gd,r2,r4⟩;have j11:j<11:=by lia
  clear E8 Ry I4 ex3 oT dT4 nT hd4 acw;let⟨sh,g⟩:=gd.VI;let⟨T,U,W,kn,du,pe,aB,pB,ik,nW,n,St,im,hd,Q4,b1,b2,b3,b4,b5⟩:=I6;refine⟨Y,U,x,pe,aB,ik,nW,E,rows,sh,rfl,St.EA,St.lst,by lia,g,λo H7 V7 s7=>?_⟩;let⟨NY,_⟩:=St.same s7;have I7:Rz bJ eY ic ie oK oM (λa=>H6 a=none/\∃ ob,H7 a=⇑ob) l c w x rows ↑aK (2*j) H7:=⟨T,U,W,kn,du,pe,aB,pB,ik,nW,n,⟨NY.src,NY.EA,NY.ex,NY.lst,NY.wo,NY.du,NY.dw,NY.dt,λa z=>⟨z.2,(St.new z.1).1,(St.new z.1).2.1,(St.new z.1).2.2.1,(St.new z.1).2.2.2.1⟩,NY.pre⟩,im,hd,Q4,b1,b2,b3,b4,b5⟩;have V7':=V7.fr (N':=λa=>H6 a=none/\∃ ob,H7 a=⇑ob) (λa xs e z=>⟨e,z,_,e⟩) λ_ _ e=>e;refine⟨a,l,c,w,x,o,_,rows,sh,_,2*j,Q,Q,Y,I7,V7',g,r2,by lia,λH8 I8 V8=>?_⟩;clear St NY I7 V7 V7' im hd Q4 b1 b2 b3 b4 b5;generalize (λa=>H6 a=none/\∃ ob,H7 a=⇑ob)=N at I8 V8;let⟨T,U,W,kn,du,pe,aB,pB,ik,nW,n,St8,im,hd,Q4,b1,b2,b3,b4,b5⟩:=I8;rw[← im]at g gd;let⟨pq,VM⟩:=St8.wo;refine⟨Y,Y,W,l,c,w,pB,pq,rows,sh,rfl,St8.src,VM,(λa z=>(St8.dw a z).2),g,by lia,by lia,λt dd H9 Y3 ok nw S9 K9=>?_⟩;let⟨Hj,Q9⟩:=St8.mv K9 S9;have V9:=V8.kp Q9;clear VM V8;let⟨pq,Ru,iW,ps,vl,wu⟩:=id Hj.wo;have zr:=jj.k (k:=kR) wu.hw;rw[show cL (qR Ru iW ps vl) kR=⇑↥iW by kernel_rfl]at zr;let⟨_,_,_,xs,hxs,al⟩:=id wu.hr;have lv:=cj.len al;let⟨tv,ht,ht1⟩:=Y3.tup;have is:=LD.Yp ok;have is1:=is.1;have is2:=is.2;have ss:((dd.sh.toNat:Nat):Int)=dd.sh:=by lia
  refine⟨Y,w,Y,zr,Y,t,Q,K,cW.of ht,ht1,Y,Y,W,w,t,pB,pq,rows,↑pB,sh,dd,rfl,⟨Ru,iW,ps,vl,wu⟩,Y3,g,ok,by lia,λe HA he le sA fe=>?_⟩;refine⟨iW,e,dd.sh.toNat,xs,by rw[ss];rfl,sA _ _ hxs,by lia,by lia,λq HB hq sB fq=>?_⟩;have sAB:=sA.trans sB;have fq1:=aR sA fq;have en':=QI (s:=dd.sh.toNat) g.en (LD.Yq g ok);have heB:=sB _ _ he;have hl3:↑(rows.set dd.sh.toNat (dd.res sh rows))=↑rows:=List.length_set;have R3:∀ {H':Hp},(∀ a ys,W a\/a=e\/a=q->HB a=⇑(.lst ys)->H' a=⇑(.lst ys))->iu (λ_=>False) H' q (rows.set dd.sh.toNat (dd.res sh rows)):=λ{H'} sm=>⟨_,sm _ _ (.inr (.inr rfl)) hq,cj.set _ (al.mono λv es ⟨b,eb,wb,E,hb⟩=>⟨b,eb,λz=>z,sm _ _ (.inl wb) (sAB _ _ hb)⟩) ⟨e,rfl,λz=>z,sm _ _ (.inr (.inl rfl)) heB⟩⟩
  have es3:∀ es∈rows.set dd.sh.toNat (dd.res sh rows),↑es<=100000:=λes hm=>by
   rcases List.mem_or_eq_of_mem_set hm with z|z
   ·have:=g.es es z;lia
   ·rw[z];exact le
  refine⟨Y,Y,t,Q,K,cW.of (sAB _ _ ht),ht1,_,q,_,dd.sh,rfl,R3 (λ_ _ _ e=>e),by lia,es3,vn en',is1,by lia,QG is1 g.sn.rk,λb HC sC hb=>⟨b,rfl,?_⟩⟩;have Za:=sAB.trans sC;let⟨Ic,QC⟩:=Hj.same Za;have VC:=V9.kp QC
  cases b with
  | false=>exact iX ⟨Q,Q,E,rows,rfl,⟨T,U,W,kn,du,pe,aB,pB,ik,nW,n,⟨Ic.src,Ic.EA,Ic.ex,Ic.lst,Ic.wo,Ic.du,Ic.dw,Ic.dt,λ_ z=>z.elim,Ic.pre⟩,im,hd,Q4,by lia,by lia,by lia,by lia,by lia⟩,by rw[← im];exact gd,r2,r4⟩
  | true =>
  refine eL ?_;let⟨R5,f5,w5,m5⟩:=hb rfl;have gd':Good ↑pB (rows.set dd.sh.toNat (dd.res sh rows)):=⟨en',R5,by lia,f5,w5,m5⟩;have wuC:Lv W HC w Ru iW ps vl pB pq rows:=wu.fr (λa ob e _=>Za _ _ e) λa xs e=>Za _ _ e;have nq:=Hj.new fq1;have ne:=Hj.new fe;let⟨Yn,rv⟩:=Wo.swap wuC (Za _ _ hxs) (sC _ _ hq) (sC _ _ heB) nq.2.1 ne.2.1;refine⟨Y,Y,w,Y,vM.k (k:=kR) wuC.hw (by show 4<sizeLine;decide),?_⟩;rw[show dc (qR Ru iW ps vl) kR ↥q=qR Ru q ps vl by kernel_rfl];have LJ:=aG w HC (.dK (qR Ru q ps vl))
  let⟨LK,QD⟩:=Ic.put Yn rv (λa y=>by
   rcases y with y|y|y
   ·exact⟨λz=>(Ic.du a z).1 y,(Ic.dw a y).1,(Ic.dw a y).2.1,(Ic.dw a y).2.2,λz=>(Ic.nn a z).2.2.1 y⟩
   ·rw[y];exact⟨ne.1,ne.2.2.1,ne.2.2.2.1,ne.2.2.2.2.1,ne.2.2.2.2.2⟩
   ·rw[y];exact⟨nq.1,nq.2.2.1,nq.2.2.2.1,nq.2.2.2.2.1,nq.2.2.2.2.2⟩)
  have VD:=VC.kp QD;generalize aN HC w (.dK (qR Ru q ps vl))=HD at LK QD VD LJ;have lsD:∀ a ys,HB a=⇑(.lst ys)->HD a=⇑(.lst ys):=λa ys e=>LJ _ _ (sC _ _ e) (cK (sC _ _ e) wuC.hw);have acB:dd.At HD t:=(Y3.same Za).kept QD.2 λs p r row ed ys hr'=>LJ _ _ hr' λz=>by rw[z,wuC.hw]at hr';cases hr'
  have lD:=LK.pre;let⟨mr,em⟩:=LK.pre;have lei:↑pB<=↑ik:=by rw[em,cT];lia
  refine⟨Y,Y,U,x,t,pe,aB,ik,nW,_,rows,sh,dd,rfl,LK.EA,LK.lst,by lia,by lia,by lia,acB,g.up lei,ok.up lei,by rw[G0 _ ∅];exact gd'.bears,λU' HE dh ll LE Zb=>?_⟩;let⟨StE,QE⟩:=LK.go LE (LK.ex.fr λa ob e z=>Zb.2.1 _ _ e λy=>(LK.du a y).2.1 z) (LK.src.fru Zb (λz=>(LK.du l z).2.2.1 rfl) λz=>(LK.du c z).2.2.2 rfl) (rows':=iM rows dd.sh.toNat (dd.res sh rows)) (by simp) LK.pre Zb.t;rw[G0 _ ∅]at StE;have VE:=VD.kp QE;have RE:=R3 (λa ys z e=>Zb.2.1 _ _ (lsD a ys e) λy=>(LK.du a y).1 z);have htE:=Zb.2.2 _ _ (QD.2 _ _ (Za _ _ ht));let⟨sg,g'⟩:=gd'.VI;have stay:=Yx R5 (vn en') g.sn.ss g'.sn.ss is1;have own':∀ (i:Nat) (es:List Int),(i:Int)≠dd.sh->rows[i]?=⇑es->(rows.set dd.sh.toNat (dd.res sh rows))[i]?=⇑es:=λi es n e=>by rw[List.getElem?_set_ne (λz=>n ∅)];exact e
  have nrg:=R5.Yw dd.sh;clear Ic LK acB VC VD Yn rv wuC Y3 ok Hj St8 V9 R3 wu al hq he heB zr nw LJ lsD Zb;generalize hR:rows.set dd.sh.toNat (dd.res sh rows)=R at *;let⟨qL,hrE,alE⟩:=id RE;have lE:=alE.len;refine⟨Y,q,rfl,⟨_,bG.of hrE⟩,λacc cP=>fE (K:=K) (a:=q) (xs:=qL) (λi σ H2=>∃ (u:Option V) (zs:List V),σ=[u]/\H2 acc=⇑(.lst zs)/\cj (λv aP=>∃ a,v=↥a/\a≠acc/\bw H2 v aP) zs ((R.take i).map aC)/\aI HE H2) ⟨none,[],rfl,af,.nil,ak cP _⟩ (by rintro i σ H2 _ ⟨_,_,_,_,_,s⟩;exact bG.of (s _ _ hrE)) ?_ ?_⟩
  ·rintro i y σ H2 hi ⟨u,zs,rfl,ha,hz,s⟩;let⟨es,ei,b,rfl,_,hb⟩:=alE.get hi;have hel:=es3 es (nJ ei);have step:(R.take (i+1)).map aC=(R.take i).map aC++[aC es]:=by rw[take_snoc ei,gE];rfl
   have zl:=hz.len;rw[cB,gr]at zl;refine⟨Y,b,es,rfl,s _ _ hb,by lia,λo5 H4 I4 s4 ho=>?_⟩;have ha4:=s4 _ _ ha;have no:o5≠acc:=(aA ha ho).symm;refine⟨zs,ha4,aQ ∅,E,rfl,af,?_,bH cP (s.trans s4) (aG acc _ _)⟩;rw[step];refine cj.snoc (hz.mono ?_) ⟨o5,rfl,no,I4.keep ha4 no (aG acc _ _)⟩;rintro v aP ⟨a,rfl,na,I⟩;exact⟨a,rfl,na,(I.same s4).keep ha4 na (aG acc _ _)⟩
  rintro σ HF ⟨u,zs,rfl,haF,hz,sF⟩;rw[lE,gH]at hz;have IF:gc HF acc (R.map aC):=⟨zs,haF,hz.mono λv aP ⟨Q,I⟩=>I⟩;have hrF:=sF _ _ hrE;refine⟨Y,q,Y,.inl (bG.of hrF),Y,by lia,by lia,λEH Dq=>nB (λi σ H5=>∃ u:Option V,σ=[u,⇑↥t,⇑↥q]/\H5 EH=⇑(.lst (((run 0 i).filter (λy=>BZ (Reach (gO R) y dd.sh))).map V.int))/\aI HF H5) ?_ ?_ ?_⟩
  ·exact⟨none,rfl,af,ak Dq _⟩
  ·rintro i σ H5 hi ⟨u,rfl,h5,s5⟩;have st:=oU 0 i
   have bl:↑((run 0 i).filter (λy=>BZ (Reach (gO R) y dd.sh)))<=i:=by
    have z:=List.length_filter_le (λy=>BZ (Reach (gO R) y dd.sh)) (run 0 i);rw[vQ]at z;exact z
   refine⟨Y,t,Q,K,cW.of (s5 _ _ (sF _ _ htE)),ht1,Y,Y,_,q,R,0+(i:Int),rfl,(RE.same sF).same s5,by lia,es3,vn en',by lia,by lia,λL o2 H6 hL s6 acC=>⟨o2,Y,.inl (bG.of hL),rfl,sS L,Y,?_⟩⟩;rw[zx];by_cases hx:dd.sh∈L
   ·rw[decide_eq_true hx];refine iX ⟨Y,_,s6 _ _ h5,(by rw[cB];exact aQ ∅),Y,?_,bH Dq (s5.trans s6) (aG EH _ _)⟩;rw[af,st,List.filter_append,List.filter_cons_of_pos (p:=λy=>BZ (Reach (gO R) y dd.sh)) (wL.mpr ((acC dd.sh).mp hx)),gE];rfl
   ·rw[decide_eq_false hx];refine eL ⟨Y,?_,s5.trans s6⟩;rw[st,List.filter_append,List.filter_cons_of_neg (p:=λy=>BZ (Reach (gO R) y dd.sh)) (λz=>hx ((acC dd.sh).mpr (wL.mp z))),List.filter_nil,fV];exact s6 _ _ h5
  rintro σ HG ⟨u,rfl,hG,sG⟩;rw[show (((↑qL:Nat):Int)).toNat=↑R by lia]at hG;have sEG:=sF.trans sG;refine⟨Y,Y,t,Q,K,cW.of (sEG _ _ htE),ht1,acc,R,dd.sh,(λy=>BZ (y≠dd.sh/\Reach (gO R) y dd.sh)),rfl,IF.same sG,by lia,g'.sn.es,vn en',is1,by lia,(λy=>wL),λo6 HI h6 sI _=>?_⟩
  have e6:(run 0 ↑R).filter (λy=>BZ (y≠dd.sh/\Reach (gO R) y dd.sh))=(run 0 ↑R).filter (λy=>BZ (Reach (gO R) y dd.sh)):=by
   refine List.filter_congr λy _=>?_;have qq:(y≠dd.sh/\Reach (gO R) y dd.sh)↔Reach (gO R) y dd.sh:=⟨λz=>z.2,λz=>⟨λw=>nrg (by rw[w]at z;exact z),z⟩⟩;rw[propext qq]
  rw[e6]at h6;refine⟨Y,E,rfl,Q3 3 h6 (sI _ _ hG),λHJ sJ=>⟨true,rfl,eL ?_⟩⟩;have sEJ:=sEG.trans (sI.trans sJ);let⟨StJ,_⟩:=StE.same sEJ;have lp:↑(pe++[R])=↑pe+1:=by rw[cT];rfl
  refine⟨Y,U',x,_,dh,ik,nW,E,R,sg,rfl,StJ.EA,StJ.lst,by lia,g',λo4 HK VK sK=>?_⟩;have sEK:=sEJ.trans sK;have hGK:=(sI.trans (sJ.trans sK)) _ _ hG;have VA:=VE.fr (N':=N) (λa xs e z=>⟨sEK _ _ e,z⟩) λa xs e=>sEK _ _ e;have IK:=IF.same (sG.trans (sI.trans (sJ.trans sK)));refine⟨Y,q,Y,.inl (bG.of (sEK _ _ hrE)),Y,by lia,by lia,?_⟩;refine oF (lo:=0) (n:=((↑qL:Nat):Int).toNat) (λi σ H9=>∃ (UD:Option V),σ=[⇑↥a,⇑↥l,⇑↥x,⇑↥w,⇑(.int (0+(j:Int))),⇑↥o,⇑↥t,⇑↥q,⇑↥acc,⇑↥EH,⇑↥o4,UD]/\aI HK H9) ⟨Y,aI.refl _⟩ ?_ ?_
  ·rintro i σ H9 hi ⟨agJ,rfl,s9⟩;have il:i<↑R:=by lia
   let⟨ts,hA,_,lA,zA⟩:=VA.fr (N':=N) (λa xs e z=>⟨s9 _ _ e,z⟩) λa xs e=>s9 _ _ e;let⟨us,hB,_,lB,zB⟩:=VK.fr (N':=λ_=>True) (λa xs e z=>⟨s9 _ _ e,trivial⟩) λa xs e=>s9 _ _ e;obtain⟨ta,eA⟩:∃ ta,ts[i]?=⇑ta:=⟨_,tK ∅⟩;obtain⟨tb,eB⟩:∃ tb,us[i]?=⇑tb:=⟨_,tK ∅⟩;let⟨ra,qa,ea,e1,YU,_,_,IA,RA⟩:=zA i ta eA;let⟨rb,qb,eb,e2,htb,_,_,IB,RB⟩:=zB i tb eB;let⟨zs',hz',alz⟩:=IK.same s9;have lz:=alz.len;rw[cB]at lz;obtain⟨vi,ei⟩:∃ vi,zs'[i]?=⇑vi:=⟨_,tK ∅⟩;let⟨aP,ej,Ii⟩:=alz.get ei;rw[mY,e2]at ej;obtain rfl:aC eb=aP:=oB ej;have ht9:=s9 _ _ (sEK _ _ htE);have xA:qJ (ts.map V.ref) (0+(i:Int))=⇑↥ta:=by rw[Int.zero_add];exact dm (by rw[mY,eA];rfl)
   have xB:qJ (us.map V.ref) (0+(i:Int))=⇑↥tb:=by rw[Int.zero_add];exact dm (by rw[mY,eB];rfl)
   have xI:qJ zs' (0+(i:Int))=⇑vi:=by rw[Int.zero_add];exact dm ei
   by_cases ck:(0+(i:Int))=dd.sh
   ·refine⟨Y,Y,t,Q,K,cW.of ht9,ht1,rfl,Y,Cw (by rw[ck]) (eL ?_)⟩;refine⟨Y,Y,t,Q,K,cW.of ht9,ht1,rfl,Y,Cw (by rw[ck]) (eL ?_)⟩;exact⟨Y,Y,o4,Q,K,bG.of hB,xB,tb,Q,K,cW.of htb,om,Y,Y,acc,Q,K,bG.of hz',xI,E,rfl,bw.eqv 2 IB Ii,λHM sM=>⟨true,rfl,eL ⟨Y,s9.trans sM⟩⟩⟩
   have ne1:((i:Nat):Int)≠dd.sh:=λz=>ck ∅
   have ee:ea=eb:=by
    have:=own' i ea ne1 e1;rw[e2]at this;exact (oB this).symm
   subst ee;refine⟨Y,Y,t,Q,K,cW.of ht9,ht1,rfl,Y,cR (λ_=>?_) (λz=>absurd (by simp;lia) z)⟩;refine⟨Y,Y,o4,Q,K,bG.of hB,xB,tb,Q,K,cW.of htb,om,Y,Y,o,Q,K,bG.of hA,xA,ta,Q,K,cW.of YU,om,E,rfl,bw.eqv 2 IB IA,λHM sM=>⟨true,rfl,eL ?_⟩⟩;refine⟨Y,Y,t,Q,K,cW.of (sM _ _ ht9),ht1,rfl,Y,cR (λ_=>?_) (λz=>absurd (by simp;lia) z)⟩;exists Y,Y,EH,Y,.inl (bG.of ((s9.trans sM) _ _ hGK)),rfl,sS _,Y;rw[zx];by_cases hm:(0+(i:Int))∈(run 0 ↑R).filter (λy=>BZ (Reach (gO R) y dd.sh))
   ·rw[decide_eq_true hm];refine eL (eL ?_);exact⟨Y,Y,o4,Q,K,bG.of (sM _ _ hB),xB,tb,Q,K,cW.of (sM _ _ htb),om,Y,Y,acc,Q,K,bG.of (sM _ _ hz'),xI,E,rfl,bw.eqv 2 (IB.same sM) (Ii.same sM),λHP sP=>⟨true,rfl,eL ⟨Y,s9.trans (sM.trans sP)⟩⟩⟩
   rw[decide_eq_false hm];refine iX ?_
   have Nf:sg ((i:Nat):Int)=sh ((i:Nat):Int):=stay _ ∅ ∅ ne1 λz=>hm (by
    rw[Int.zero_add]
    exact List.mem_filter.mpr ⟨List.mem_of_getElem? (by have:=DN 0 ↑R i il;rw[Int.zero_add]at this;exact this),wL.mpr z⟩)
   rw[Nf]at RB;refine⟨Y,Y,o4,Q,K,bG.of (sM _ _ hB),xB,tb,Q,K,cW.of (sM _ _ htb),rH,Y,Y,o,Q,K,bG.of (sM _ _ hA),xA,ta,Q,K,cW.of (sM _ _ YU),rH,E,rfl,bW.eqv (RB.same sM) (RA.same sM) 2,λHP sP=>⟨true,rfl,eL ?_⟩⟩;have Zc:=sM.trans sP;exact⟨Y,Y,o4,Q,K,bG.of (Zc _ _ hB),xB,tb,Q,K,cW.of (Zc _ _ htb),om,Y,Y,acc,Q,K,bG.of (Zc _ _ hz'),xI,E,rfl,bw.eqv 2 (IB.same Zc) (Ii.same Zc),λHQ sQ=>⟨true,rfl,eL ⟨Y,s9.trans (Zc.trans sQ)⟩⟩⟩
  ·rintro σ H9 ⟨agJ,rfl,s9⟩;let⟨Hj,_⟩:=StE.same (sEK.trans s9);exact⟨Q,Q,E,R,rfl,⟨T,U',_,kn,du,_,dh,pB,ik,nW,n,⟨Hj.src,Hj.EA,Hj.ex,Hj.lst,Hj.wo,Hj.du,Hj.dw,Hj.dt,λ_ z=>z.elim,Hj.pre⟩,im,hd,Q4,by lia,by lia,by lia,by lia,by lia⟩,by rw[← im];exact gd',by lia,by lia⟩
 ·rintro σ H6 ⟨u4,u5,u6,u7,u8,u9,Yz,UD,rows,rfl,_⟩;exact k H6
end
end gB
theorem PySem.Challenge.cw_inkroot_k57_whole_stirred_holds : PySem.Challenge.rw_inkroot_k57_whole_stirred.Holds :=
 InkHd.hd2 gB.all_mk
